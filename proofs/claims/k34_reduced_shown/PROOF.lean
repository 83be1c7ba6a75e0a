import PyProof.Rows.All
import Wide.All
import OpenK.AllK
import PySem.Challenge.RW_polyring_k34_reduced_shown
set_option Elab.async false
set_option linter.all false
set_option maxRecDepth 100000
set_option maxHeartbeats 4000000
set_option compiler.extract_closed false
set_option genSizeOf false
set_option hygiene false
def _yu(T B A:Array Lean.Syntax):Nat->Lean.Syntax->Lean.Syntax
 |n+1,s=>s.rewriteBottomUp λ
   |.ident _ r (.str .anonymous v) p=>let c:=v.front.toNat-248;if c<136&&v.front>'÷' then _yu T B A n (T[if v.length==1 then c else 136+c*64+(("abcdefghijklmnopqrstuvwxyzABCDEFGHIJKLMNOPQRSTUVWXYZ0123456789_'".splitOn (v.drop 1).toString)[0]!).length]!) else .ident .none r (.str .anonymous v) p
   |.ident _ r v p=>.ident .none r v p
   |.atom _ v=>.atom .none v
   |.node _ k a=>.node .none k (a.flatMap λx=>if x.isOfKind `Lean.Elab.Tactic.Ext.ext then
     let w:=((x[1].find? (·.isIdent)).getD .missing).getId.toString.toList.map λc=>if c<'a' then c.toNat-39 else c.toNat-97
     let y:=_yu T B A n (A[match w with|[a,b]=>52+a*52+b|l=>l.head!]!);if y.isOfKind `Lean.Parser.Tactic.paren then y[1][0][0].getArgs else #[y]
    else if x.isOfKind `Lean.Parser.Term.instBinder&&x[2].isOfKind `num then
     let y:=_yu T B A n (B[x[2].isNatLit?.getD 0]!);if y[1][0].isOfKind `Lean.Parser.Term.hole then y[2][1][1].getArgs else #[y]
    else #[x])
   |x=>x
 |_,s=>s
local macro_rules|`(mutual $c* end)=>do
 if c.size<9 then Lean.Macro.throwUnsupported else return Lean.mkNullNode ((c.toList.drop 3).toArray.map λx=>let s:=_yu c[0]!.raw[1][2][1][1].getSepArgs c[1]!.raw[1].getArgs c[2]!.raw[1][2][1][1][0][0].getSepArgs 99 x;if s.isOfKind `Lean.Parser.Command.open&&s[1][0][0].getId==`e then .node .none `Lean.Parser.Command.end #[.atom .none "end",.node .none `null (s[1][0].getArgs[1:].toArray.flatMap λx=>#[x,.node .none `null #[]])] else s)
def _yp(a:List Lean.Term):Lean.Term:=Lean.Syntax.mkApp a.head! a.tail.toArray
def _yf(h n u:Lean.Term)(s:String):Lean.Term:=_yp ((s.splitOn " ").reverse.foldl (λl w=>match w,l with|")",l=>[]::l|"(",a::b::r=>(_yp a::b)::r|w,l=>l.modifyHead ((if w=="?" then h else if w=="!" then n else if w=="_" then u else if w==".." then ⟨.node .none `Lean.Parser.Term.ellipsis #[.atom .none w]⟩ else Lean.mkIdent w.toName)::·)) [[]]).head!
def y_q:Array String:=("PA _ ( List.cons _ _ ) _,Ot ? ?;PA _ List.nil _,TN;PE _ ( Expr.Name .. ) _,Tv _;PE _ ( Expr.Name .. ) _,tH ! T.z?;PE _ ( Expr.Name .. ) _,tH ! T.B';PE _ ( Expr.Name .. ) _,tH ! T.vI;PE _ ( Expr.Name .. ) _,tH ! T.M6;PE _ ( Expr.Constant .. ) _,Tw;PE _ ( Expr.Constant .. ) _,abU;PE _ ( Expr.Constant .. ) _,Tx;PE _ ( Expr.Constant .. ) _,Tz;PE _ _ ( tG _ _ _ ( ax zj _ ) ),gG ( HZ hr.hd ) ! ! PyProof.Rows.Boot.sum ?;PE _ _ ( tG _ _ _ ( ax n_ _ ) ),iw He ! ! PyProof.Rows.boot_tuple ?;PE _ _ ( tG _ _ _ ( ax C! _ ) ),gG ( Hg hr.hd ) ! ! PyProof.Rows.boot_all ?;PE _ _ ( tG _ _ _ ( ax C_ _ ) ),gG Hd ! ! PyProof.Rows.boot_abs ?;PE _ _ ( tG _ _ _ ( ax c7 _ ) ),gG Hc ! ! boot_len ?;PE _ _ ( tG _ _ _ ( ax Bt _ ) ),iw ( DJ hr.hd hr.units ) ! ! PyProof.Rows.boot_dict ?;PE _ _ ( tG _ _ _ ( ax H? _ ) ),iw ( DT hr.hd ) ! ! PyProof.Rows.boot_list ?;PE _ _ ( tG _ _ _ ( ax kI _ ) ),iw Hf ! ! PyProof.Rows.boot_list ?;PE _ _ ( tG _ _ _ ( ax u_ _ ) ),gG DM ! ! boot_len ?;PE _ _ ( tG _ _ _ ( ax qw _ ) ),gG ( DN hr.hd ) ! ! PyProof.Rows.Boot.max ?;PE _ _ ( tG _ _ _ ( ax KA _ ) ),iw Ht ! ! PyProof.Rows.Boot.int ?;PE _ _ ( tG _ _ _ ( ax HY _ ) ),gG ( DK hr.hd ) ! ! PyProof.Rows.Boot.max ?;PE _ _ ( tG _ _ _ ( ax H! _ ) ),iw DS ! ! PyProof.Rows.boot_dict ?;PE _ _ ( tG _ _ _ ( ax Lj _ ) ),gG ( HQ hr.hd ) ! ! PyProof.Rows.Boot.min ?;PE _ _ ( tG _ _ _ ( ax _ _ ) ),ab5 ! hr ! ! ! ?;PE _ _ ( tG _ _ _ ( Bn _ _ _ ) ),PD ! hr ! ! ! ?;PE _ _ ( tG _ _ _ ( gX _ _ _ _ _ ) ),Lp ! hr ! ! ? ?;PE _ _ ( tG _ _ _ ( dZ _ _ _ ) ),Ln ! ?;PE _ _ ( tG _ _ _ ( ao aQ _ _ ) ),Uo ? ?;PE _ _ ( tG _ _ _ ( ao k_ _ _ ) ),OM hr.units ? ?;PE _ _ ( tG _ _ _ ( wg _ _ ) ),TH ? ?;PE _ _ ( tG _ _ _ ( mOr _ _ ) ),abV ? ?;PE _ _ ( tG _ _ _ ( Oo _ _ _ ) ),abX ? ? ?;PE _ _ ( tG _ _ _ ( cH _ ) ),TQ ?;PE _ _ ( tG _ _ _ ( bL _ ) ),TR ?;PE _ _ ( tG _ _ _ ( Q? _ _ _ ) ),ab7 ? ? ?;PE _ _ ( tG _ _ _ ( qq ) ),Kv;PE _ _ ( tG _ _ _ ( Dk ) ),Kw;PE _ ( Expr.BinOp .. ) _,U9 ? ?;PE _ ( Expr.BinOp .. ) _,U8 ? ?;PE _ ( Expr.BinOp .. ) _,U5 ? ?;PE _ ( Expr.BinOp .. ) _,U6 ? ?;PE _ ( Expr.BinOp .. ) _,U7 ? ?;PE _ ( Expr.BinOp .. ) _,j8 OV ? ?;PE _ ( Expr.BinOp .. ) _,j8 OW ? ?;PE _ ( Expr.BinOp .. ) _,j8 PL ? ?;PE _ ( Expr.BinOp .. ) _,j8 aaf ? ?;PE _ ( Expr.Compare .. ) _,acy hr.units ? ?;PE _ ( Expr.Compare .. ) _,acz hr.units ? ?;PE _ ( Expr.Compare .. ) _,jo J4 ? ?;PE _ ( Expr.Compare .. ) _,jo J5 ? ?;PE _ ( Expr.Compare .. ) _,jo J7 ? ?;PE _ ( Expr.Compare .. ) _,jo ( LF hr.units ) ? ?;PE _ ( Expr.Compare .. ) _,jo ( LJ hr.units ) ? ?;PE _ ( Expr.Compare .. ) _,jo ( LK hr.units ) ? ?;PE _ ( Expr.Compare .. ) _,jo J? ? ?;PE _ ( Expr.Compare .. ) _,jo Ke ? ?;PE _ ( Expr.UnaryOp .. ) _,TY ?;PE _ ( Expr.UnaryOp .. ) _,TJ ?;PE _ ( Expr.Call ( Expr.Attribute .. ) .. ) _,Hv ? ?;PE _ ( Expr.Call ( Expr.Attribute .. ) .. ) _,Hw ? ?;PE _ ( Expr.Call ( Expr.Attribute .. ) .. ) _,OX ?;PE _ ( Expr.Call ( Expr.Attribute .. ) .. ) _,Kx hr.units ? ? ?;PE _ ( Expr.Call ( Expr.Attribute .. ) .. ) _,Lw ? ?;PE _ _ ( tG _ _ _ ( C? _ _ ) ),uM Kg ! ! ! ! PyProof.Rows.boot_int ?;PE _ _ ( tG _ _ _ ( C? _ _ ) ),uM Hi ! ! ! ! PyProof.Rows.boot_bool ?;PE _ _ ( tG _ _ _ ( C? _ _ ) ),uM Kh ! ! ! ! PyProof.Rows.boot_str ?;PE _ _ ( tG _ _ _ ( C? _ _ ) ),uM Dd ! ! ! ! PyProof.Rows.boot_tuple ?;PE _ _ ( tG _ _ _ ( C? _ _ ) ),uM Hj ! ! ! ! PyProof.Rows.boot_list ?;PE _ _ ( tG _ _ _ ( rV _ _ _ _ ) ),Pt _ T.sub T.qx ! ! ! !;PE _ _ ( tG _ _ _ ( Hn _ _ _ ) ),OL _ T.sub ! nJ ! ! !;kM _ ( List.cons _ List.nil ) _,J0 ?;kM _ ( List.cons _ _ ) _,EG ? ?;kM _ List.nil _,TU;PS _ ( Stmt.Assign ( List.cons ( Expr.Name .. ) List.nil ) .. ) _,QO ! ?;PS _ ( Stmt.Assign ( List.cons ( Expr.Subscript .. ) List.nil ) .. ) _,ON hr.units ? ? ?;PS _ ( Stmt.Assign ( List.cons ( Expr.Attribute .. ) List.nil ) .. ) _,Lo ! ? ?;PS _ ( Stmt.Return none _ ) _,PQ;PS _ ( Stmt.Return .. ) _,TV ?;PS _ ( Stmt.If .. ) _,abZ ? ? ?;PS _ ( Stmt.Expr .. ) _,Ov ?;PS _ ( Stmt.While .. ) _,Kl A8 ? ?;PS _ ( Stmt.For .. ) _,T? A8 rfl ? ? ?;PS _ ( Stmt.Raise .. ) _,Hq Dh rfl ! ! ?;PI _ _ _ ( tG _ _ _ ( dy _ ) ),T8 ?;PI _ _ ( Expr.Call .. ) _,Hl ! ! ?;PI _ _ ( Expr.Call .. ) _,OQ ! ! ?;PI _ _ ( Expr.Call .. ) _,T_ _ _ ! ! ?;PI _ _ ( Expr.Call .. ) _,OR ! ! ?;PG _ ( Expr.Name .. ) _,OE _ !;PG _ ( Expr.Tuple .. ) _,T6 rfl ?;CC _ ( List.cons _ _ ) _,Ki ? ?;CC _ List.nil _,OF;C2 _ List.nil _,OG;C2 _ ( List.cons _ List.nil ) _,OH ?;PT _ ( Expr.Compare .. ) _,acw hr.units ? ?;PT _ ( Expr.Compare .. ) _,acx hr.units ? ?;PT _ ( Expr.Compare .. ) _,acu ? ?;PT _ ( Expr.Compare .. ) _,acv ? ?;PT _ ( Expr.Compare .. ) _,jq J7 ? ?;PT _ ( Expr.Compare .. ) _,jq ( LF hr.units ) ? ?;PT _ ( Expr.Compare .. ) _,jq ( LJ hr.units ) ? ?;PT _ ( Expr.Compare .. ) _,jq ( LK hr.units ) ? ?;PT _ ( Expr.Compare .. ) _,jq J? ? ?;PT _ ( Expr.Compare .. ) _,jq Ke ? ?;PT _ ( Expr.UnaryOp .. ) _,TM ?;PT _ ( Expr.BoolOp .. ) _,aei ?;PT _ _ ( tG _ _ _ ( bx _ ) ),TB ?;OP ?;OO;abW ? ?;TK ?;TL ? ?;Oq ?;TC ?;kM _ _ _,J0 ?;kM _ _ _,EG ? ?".splitOn ";").toArray
def y_d(i:Nat):Lean.MacroM (Lean.TSyntax `tactic):=do
 let a<-((("=_I.Xt.refl _I.aeG;_I.dF _I.dM _I.iZ _I.aV _I.a!;_D.og _D.E7 _D.je _D.eq_nil _D.ne_nil;_I.aeC _I.Qk _I.aeH _I.aeI _I.aeJ _I.acW _I.ac2 _I.aeF _I.acX _I.aaE _I.ac0 _I.zE _I.aaD _I.L8 _I.Qg _I.Ql _D.fP _D.div_ii;_I.acS _I.aaI _I.ac1 _I.aaB =_D.KZ _I.aeD _I.aeE _I.acY _I.acZ _I.dD _I.aaG _I.vy _I.c! =True.intro _I.acT _I.aaC _I.acU _I.acV;_I.acN _I.aaz _I.acO _I.acP _I.RD _I.aey _I.aez _I.aeA _I.aeB _I.acQ _I.acR _I.aaH _I.ac5 _I.ac4 _I.ac3 _I.ac6 _I.Qf _I.aaA;Exists.intro And.intro =_D.iU =_D.m? =_D.uW =_D.ki =_D.KI =_D.yZ _I.Bz _D.iV _I.acL _I.aax _I.acM _I.aay".splitOn ";")[i]!).splitOn " ").mapM λs=>if s.front=='=' then `(tacticSeq|with_reducible exact $(Lean.mkIdent (s.drop 1).toString.toName)) else `(tacticSeq|with_reducible apply $(Lean.mkIdent s.toName))
 `(tactic|first $[|$(a.toArray)]*)
def y_k(i:Nat):Lean.MacroM (Lean.TSyntax `tactic):=do
 let f:=_yf (<-`(?_)) (<-`(nofun)) (<-`(_))
 let a<-(y_q.extract i (i+12)).mapM λr=>match r.splitOn "," with|[g,t]=>`(tacticSeq|(with_reducible show $(f g));refine $(f t))|_=>`(tacticSeq|refine $(f r))
 `(tactic|first $[|$a]*)
local macro_rules|`(tactic|left)=>`(tactic|first|exact Or.inl rfl|exact Or.inr rfl|assumption|exact Or.inr (Or.inl rfl)|exact Or.inr (Or.inr rfl))
local macro_rules|`(tactic|right)=>`(tactic|repeat first|exact .nil|refine .cons (by rfl) (by rfl) (by left) (by left) ?_)
local macro_rules|`(())=>`(by first|with_reducible assumption|decide|lia)
local macro_rules|`(tactic|simp![$a,*])=>do
 let l<-("aJ,dS,gH,dU,bI,gW,d!,m?,gq,jd,fO,iT,gQ,o?,gR,fh,iU,fg,gD,dJ,ju,gP,n?,ki,uZ,qt,n!,rQ,E5,uW,y9,tP,rR,tO,uX,rO,Rk,Rc,KG,KL,mO,Be,Rj,Ds,KQ,EW,Nat.reduceAdd,Nat.reduceSub,Nat.reduceLeDiff".splitOn ",").mapM λs=>`(Lean.Parser.Tactic.simpLemma|$(Lean.mkIdent s.toName):ident)
 `(tactic|simp only[$(l.toArray),*,↓reduceIte,$a,*])
def _ys(s:Lean.Syntax):Lean.Syntax:=s.rewriteBottomUp λ|.node _ k a=>.node .none k a|.atom _ v=>.atom .none v|.ident _ r v p=>.ident .none r v p|x=>x
def _yo:Nat->Lean.Syntax->Lean.Syntax
 |n+1,s=>if s.isOfKind `Lean.Parser.Term.anonymousCtor then .node .none `Lean.Parser.Tactic.rcasesPat.tuple #[s[0],.node .none `null (s[1].getArgs.mapIdx λi x=>if i%2==1 then x else .node .none `Lean.Parser.Tactic.rcasesPatLo #[.node .none `Lean.Parser.Tactic.rcasesPatMed #[.node .none `null #[_yo n x]],.node .none `null #[]]),s[2]] else if s.isOfKind `Lean.Parser.Term.hole then .node .none `Lean.Parser.Tactic.rcasesPat.ignore #[s[0]] else .node .none `Lean.Parser.Tactic.rcasesPat.one #[s]
 |_,s=>s
local macro_rules|`(tactic|let $p:term:=$e)=>`(tactic|obtain $(⟨_yo 9 p⟩):rcasesPat:=$e)
local macro_rules|`(command|def $i:declId $s:optDeclSig:=$v)=>do
 if s.raw[1].getNumArgs==0 then Lean.Macro.throwUnsupported
 if v.raw.isOfKind `Lean.Parser.Term.paren then return _ys (<-`(command|noncomputable def $i $s:optDeclSig:=$(⟨v.raw[1]⟩))) else return _ys (<-`(command|theorem $i $(⟨.node .none `Lean.Parser.Command.declSig #[s.raw[0],s.raw[1][0]]⟩):declSig:=$v))
local macro_rules|`(command|def $i:declId $s:optDeclSig $a:matchAlts)=>return _ys (<-`(command|noncomputable def $i $s:optDeclSig $a:matchAlts))
local macro_rules|`(($a,$b,*))=>`(⟨$a,$b,*⟩)|`(%[$a|$b])=>`(Prod.mk $a $b)
set_option hygiene true
set_option bootstrap.genMatcherCode false
def bcn{p:Prop}(h:¬p->False):p:=Classical.byContradiction h
open PySem
noncomputable section
mutual
example:=[(by first|ext fp|decide|ext K|ext as|exact Ķ4|ext cl|exact ĎJ|ext ex|exact Ę3|exact ăv Ĭ|ext ou|ext ox|ext ov|ext ow|exact ćH Ĭ|exact ĳN|exact ĳM|exact ıG|exact ûd Ĭ|exact œ Ĭ|exact ĆM Ĭ|exact ĲF|exact ęG Ĭ|exact ĲE|exact ĹY|exact ĮL|exact ĮK|exact ĳG|exact ĹZ|lia),s.heap,List Tm,ĀT,s.heap.objs.size,List au,List Nat,v+1,X.env,wo X,some o,List.length_cons,List.map_cons,aH.lst,model Đ X.w,Option au,Ń,us.length,.cons,List.mem_cons_self,y_D._auto_1,List.length_map,List.length_append,(·.1),X.prog,some us,i+1,s.length,List.mem_map.mp,2 ^ w,au.int,.none,some u,(_,rfl),FnAt.jE,ł,ýY,.int i,some true,List.map_map,.loc n,some b,ăp,Nat.le_trans,some v,aG X ak Y H s,Ġ,List.getElem?_eq_getElem,Array.length_toList,az 0,if_pos rfl,some x,(by ext fp),List.getElem?_map,List.append_assoc,xs.length,PE.imp,u::us,(by decide +kernel),List.length_nil,Xt s s',X.size,j+1,List V,.type,List.map_nil,aE.toArray,Array Keyed,ĝ,List.size_toArray,Nat.lt_of_lt_of_le,2 ^ v,ùO,Heap.get?_push_of_some,Nat.le_refl _,(by simp),List.append_nil,.ref a,if_neg Ăh,_F.lexLt,some c,Heap.lt_size,List.map_append,2 ^ 64,some a,some k,a.size,List.mem_cons.mp,.builtin,List.getElem?_set_self,s1.heap.objs.size,Nat.ne_of_lt,List.length_set,š _ m,if_neg ø,(·.2),W.length,List α,.bl b,Ņ,bR.ok,List.replicate,vs.length,List eZ,st[n]?,List.mem_cons_of_mem,{s with heap:=h'},List.mem_singleton.mp,Nat.zero_add,bb ÿ5,.nx bn ay,Nat->ú,s.heap.get?,some (ÿa),Option Int,aZ K O H us vs,rows.length,List bF,Array Vg,if_neg z,.Call,ø7,Ĳ,ns.length,ą8=Ă,ą0,.tup us,H b=none,l.length,aZ.cons,s.set,.bl true,some (þA),List.nil_append,au.loc,ar st n,b.size,.rt v ay,.int 2,az 3,k+1,úq,[Ġ],cb b ÿ,(by decide),if_pos ø,.bool,es.size,ln F T,bh v u,x=Ņ,ag aM aw,ġU,ai->Prop,List (Vb),X.stack,st.length,Ne.symm,aZ.mono,.int p,x.t.1,Ż,úI,_F.dH,List.mem_of_getElem?,X.env.locals,Vh->Prop,(k:Int),ag bB aw,vs.toArray,Nat.lt_or_ge,h.get?,ts.map,λp hp=>?_,.ref b,s3.length,if_pos z,z.symm,s++g,b=true,I.bare,I.free,l.map,ùr,List.getElem?_append_left,σ.toList.Perm ĒY,List.length_reverse,Hp->Prop,s.heap.push,List.replicate_zero,aA.length,EP X ak Y Q,(üt).bind,.int 0,ag bp aw,.int j,.Name,H p=none,ü+1,I.tuple,St->øZ,X.base,bQ sr h,[Ņ],aW.imp,dE.imp,ø5,č0 _ rfl,List.mem_append.mp,List.getElem?_eq_some_iff.mp,.type "tuple",List (κ×V),aC b w t.1,h'.get?,decide_eq_false ø,aE.toArray.size,ag bo aw,.ref ü,beq_iff_eq.mp,(by cases m),(ār).bind,Int.mul_assoc,e.length,(i:Int),.int 1,st++g,_D.Env,Nat×ú,.int 3,ba xs us,if_pos h,s[n]?,I.cell,aZ.nil,a Z s,Ś,r1.bK,r2.bK,Nat.zero_le _,aC b ÿ t.1,(by ac_rfl),List.map_congr_left,Option.some.inj,.bl false,List (bF×au),ùw=ÿl,List (bF×V),ģl,s[r.1]?=Ća,į<=sizeLine,.str Ċs,some .local,(j:Int),es.length,I.tok _,dO sr h,ĊL,.ct bn ay,2 ^ ÿ,s'.heap,I.list,.ok v st,W.kitOne,λ_=>rfl,(by ext e),r.length,úp=aj,Xn s s',xs.size,es.sum,ø_,bh x v,some j,ùR,Ăi,List.getElem?_append_right,će x=ň,aD O H bi H',List (Str×Str×Bool),t.1.length,λ_=>True,List (κ×au),.Attribute,üw,Nat.sub_self,Rl K O H u v,s1.length,Bool.and_eq_true,λ_ _ _ _=>?_,objs.size,List (Str×V),x1.trans,(n:Int),T.map,I.ok.hd hc,List Stmt,h.objs.size,lexLt ys xs,.ref p,some ü5,o.data,k.toNat,Option Vi,h! tab,.rt v st,Xt.refl,I.laid,PS.imp,úB x2,v=Ņ,.bl _,I.loc,øJ a,Ćc,x::xs,A.in1,bR au,İs,beq_eq_false_iff_ne.mpr,ýZ K mainGlobals c=Ĉ3,g0.fdiv g1,λ_ _=>rfl,Int.toNat_natCast,.ref f,∃g,ay=Gs st g,List.reverse_cons,ds.length,List.cons_append,λx hx y hy=>?_,Heap.size_push,Int.mul_comm,Nat.ne_of_gt,(ģW).kh,sa+na,Nat.add_zero,(by simp at h),ws.length,List Env,xs[i]?=ī,ċW=Ă,(ār).kh,dig w ds,k _ _ út e,x1.items,hr r mr,List Expr,List (þ),.bk bn ay,.fields,Sum.inl,Ċn,O++[p],sr.cell,dG T e,.ref l,au->þk,some [],qI ýa,some y,bR α,oe.cls,ùM,_E.bC,ĕo,.done,d? us,Rl.kW,ěb λ(k:Nat)=>Ė øF,some ī4,items.size,List.getD_eq_getElem?_getD,cb b w,SortSt->Prop,["Packing"],(λz=>nomatch z),List.pairwise_map.mp,List.mem_filter.mp,.Tuple elts kt tp,ĸ "list",some Ĝ,ē<=Ċf,(by rw[<-Cu];rfl),List.range,aI st,if_pos hg,h1.objs.size,jA p aj row,ys.length,ÿ3,ąk,.ok új s,Nat.mul_add,λu mu=>?_,kU P w,s2.length,λb hb=>?_,rv.length,ts.length,[ą []],(by ext g),True.intro,Ĕn,.str x,(o,ho,hc),Option V,if_neg e,if_neg h,x2.trans,I.ok.kind,Str->Bool,cs.length,m Z st,s.toks,2 ^ 20,.inl rfl,if_pos q,Rl.mono,dy bo,(w:Int),.loc q,(0:Int),ſ=đ,.int _,st.set,_B.f',ü+2,Ăj,.inl i,Xt.app,(g,e),I.pin,ük,[ø5],_E.bc,m Z s,[Ĥ],[Ėa],d::ds,ûf,t.1=e,Ą3,List.mem_append_right,λ_ _ _ _ _ _=>wk λ_ _ _ _=>rfl,Heap.get?_update_other,Array.toList_append,{s with heap:=h',toks:=tk},Value.ref,List (Str×Vi),List.drop_eq_getElem_cons,ąg,ÿ0 ď,ao aQ bX bp,Nat.pow_le_pow_right,(by intro z;cases z),eval o Ā,decide_eq_true ø,(G:Int),ýF āY,of_decide_eq_true q,ag bX aw,ao aQ bo bp,some ā0,Builtin.bitAnd,model P w,ķ->ċ4,aC b w u.1,A.units,Eb p aj r.2,List Md,decide (i<j),IntsAre us ns,List.any_cons,SR W.K O st H,["Monic"],List.length,RS W O H Z Y,āH=ùk,some (.dK l),ēG s,Ő "max",W.kia_one,some r,Nat->ý,mM K H a xs,ē',ċn ?_,aE.toList,ns.map,s4.length,ŉ e,iu øt,úW=Ă,ûf+nb,.int n,X.mg x,W.mg_of,.ok v s1,.ok v s2,.ok v s3,if_neg q,(x:Int),2 ^ 63,az 5,Xt s s1,r::rows,t Y H Q,.ref C,W.nsIn,az 4,V->ýi,bh x u,rs.map,.inr x,.loc S,.str z,au.tup,Ă6,.unit,I.len,Ćw,ùy,øM,b!.nx,k.map,ü2 a,dig ÿ ķ4,some (.lst (ĔU)),bootBuiltins x,List.length_replicate,{s with toks:=Ăb},ai->ú0,List.Pairwise.nil,List.mem_reverse.mp,Heap.FlyingW,ps.length,SR K O st H,Ve->Hp->Ĝ5,uA X N scope cl k aX,λay=>ar ay R=đ,List.set_cons_zero,ĉX,List.length_take,aG X ak cx H' s',row.map,some Đd,False.elim,gE p d aj top t c,lexLt xs ys,(e:Int),(ùm:Int),List.cons.inj,some ąG,hU [ĩ,ēi],ao aQ aM bp,λt=>āp,some .free,K.lookup,hf b hb,pd.toList,some ģf,eJ K O H aA l,some ĉm,.loc R,Ő id,bL aw,.ok øz st,Int.mul_zero,Nat.mul_zero,aA.map,A.deeper,some none,O[n]?=Ō,.er c bn ay,.ref ea,Obj.mapSeq,SeqAt.EqAt,λx c e=>?_,mo.length,Ł _ e,ĒN,SortSt.mk',c! trivial,us.toArray,λ_ _ q=>q,.lst us,a.extract,s5.length,.ref t,(rfl,rfl),g i j,b.extract,nM p=true,.ok øz s,ii.extBut,.int þC,f.length,-(ŋ),cV st,t Z st,.nx Z st,K.In ù,Vf->Prop,(by omega),k.length,mg c=ûZ,uq ù e,(1:Int),I.kept,b≠øD,d9 aj,some ks,some ob,ùF=ň,β->øZ,js.map,.inl e,b Z st,cB ú5,fP ø,s1[n]?,Ŷ,.int k,.str _,S.left,xs=ùd,Ĥ,[x,y],ýI,ýL,Će,_A.um,(us,[]),.tup _,s1.set,n+1,_E.c8,A.map,_E.cQ,dE.or,nV es,s.len,mC új,Ű đy ŵ [] pos,⟨x,H1,I1,r1,q1⟩,aC b ÿ u.1,ÿC->Ċ4=ň,s.heap.UpToSlots h',List.take_of_length_le,(ĉk).Nodup,(by ext gx;ext j),nq aj wt Wm p T,List.Pairwise.imp_of_mem,List.filter_cons_of_neg,List.filter_cons_of_pos,SR X.K O st H,%[false|Ďz],Array.getElem?_toList,cP.toArray.size,scope.names.lookup,λb o e=>þ6,I.base.free,fs.lookup,2 ^ 62,Obj.data_mapFields,.tup (nV e),(_,ùh,rfl,rfl),üK _,(by rw[ă];ext c),Heap.SameBut,(top:Int),Nat.lt_trans,Nat.testBit_and,aG X ak Y H' s',λ_=>trivial,List.sum_cons,Bool.and_false,List.drop_zero,RS ā O H Z Y,Rl X.K O H u x,eJ K O H aA cg,ğI,N.length,F t.1*t.2,X.env.scope,ĒI,ø8 x pos,some üW,Int.mul_add,Result->øE,some ÿP,y_B._auto_1,List (K×Vg),Nat.min_self,model prog w,Ġ6,upd H a o,P.length,gg w.2 r.2,symm.trans,List.lookup,au->au->Ăn,i.natAbs,-(Āo),ap.extBut,ar s R=đ,ha.trans h,we v=false,.loc q0,Rl.mkInt,if_pos e,s.TypeIs,Rl W.K,vs++xk,2 ^ N,PE X e te,(nomatch e),pl.isList,some n,⟨g,e⟩,bb ĂF,(wo X).K,.int ýa,au->Bool,ba xs aE,if_pos c,ks.Nodup,p.isList,iE t.1,H a=Ă,a Z st,jz aj e,some aA,some ns,sub c x,us.drop,iE e,k a st,Ćg,.loc M,.loc m,Gl X x,[e,it],aZ.one,bR Itm,cB ĤU,o.cls,p=true,qI ćC,ùw=aj,Ăy,(m:Int),ĉ=þo,B.get?,.int 4,_K.dig,Č7,ăq,ćx,Ę,ĤI,ü_,Čy,V.int,p.1=k,.cell,.func,_E.bV,_E.eQ,e.sum,f::fs,jC aj,q.2.1,s[a]?,s[q]?,w::ws,x.at_,y=øM,üu+1,ùQ e,ûf+m,ē+1,_E.eU,s[z]?,Bool.false_ne_true,ďU ĂW,wpAny_pure ?_,iB üb P w K mg base N qual scope f cd A outer cr jp E,.ListComp elt [(tg,iter,ifs,0)] scope pos,notedBy û A env λx s'=>R ĐR s',Option Bool,autoParam (mK x) ĀQ,ha ak s Y H _ I h,envOfC qual scope ü f cd,{s with heap:=h',toks:=t'},λi=>ĈH,Mq aj wt b ÿ p x,Nat.succ.inj,List.getElem_mem,List.length_singleton,X.env.scope.names.lookup,.int ćC,List.getElem?_cons_succ,List.pairwise_singleton _ _,Nat.testBit_two_pow_mul_add,tE X E m,ğj,SR W.K bi st H',mC øz,("ByNought":Str),List.pairwise_append.mpr,nh t.1 x.t.1,List (Str×au),("NoOrder":Str),("NoPrime":Str),ċV=Ă,List.Perm.refl _,Bool.false_eq_true,List.pairwise_map.mpr,decide_eq_true rfl,Builtin.bitNot,k == "bool",.BoolOp,he ak s Y H _ I h,X.env.kindOf,λr=>ž r.1,σ[j]?=X[j]?,List.mem_map_of_mem,List.replicate_succ,u.1.length=aj,.int üA,fs.length,gn X scope cl aX,rows.flatMap ŗ,Ő "isinstance",.int t.2,Int.emod_lt_of_pos,ģP e2,List.flatMap_cons,(by simpa using hc),Ş<=sizeLine,.ref e,Ľ1,beq_iff_eq.mpr,List.mem_map.mpr,V->Ū->Ū->ċ4,kN K H a xs,ēu,binaryOp .Add,1<=t.2/\t.2<p,Int.emod_nonneg,TgF p aj rows W,X.cr.heap.objs.size,(a==sysModules)=false,ao aQ bX cG,øK ûR,aD.refl _ _,.loc ē,Env->ai->ûF,cE ø ø ø,pb ù d es ep,some Ğx,Nat.le_of_lt,g0-ú4*g1,jz aj t.1,gZ (cl:=[]),List.mem_cons,Paired.length,s.heap.IsList,wpAny_bind ?_,.ok false aK,H l=ĢS,Int.lt_or_le,Nat.sub_zero,W[i]?=Ċ0,s'[r.1]?=Ća,ø2<sizeLine,λ_ _ h'=>h',Ő "len",Ő "sum",Value.none,kq.length,zs.toArray,.tup û8,I.base.slot,Option (Vb),dw N ps û3,ai->b!,ġR,aE.length,ap.heap,dd.typeIs,dvd f e,if_pos hz,j.toNat,lo+n,.er c Z st,Option Nat,Rd H a ü5,W.keepIn,["number"],cP.toArray,es.reverse,if_pos ĕs,some ċj,some false,ĔN=Ę,bN e f,(K,mg,[]),Rl X.K,(üt).sb,jm aA k,(i:Nat),.err c st,.int þD,Bool->øZ,I.base.mZ,I.base.nS,I.base.oJ,Rl.mkStr,["thing"],cC xs i j,dL.extBut,if_pos hk,kY us ws,qs.length,ra.length,sK.extBut,X.outer,s1 Z st,Ău hl,(y:Int),.ok c s1,.ok v ay,J.go i H,K r xs i,List ĕ2,Nat->Int,ba vs us,if_neg c,jX K C f,m.length,r x<=r y,r.append,some .se,x2.items,þ->Nat,ý->þk,λq3=>?_,W0 X,bb bB,(h1,h2),(t,rfl),Ău h,Cq.refl,List AS,eJ.cons,h1.get?,pd.size,some pc,ýF Ė,ħ ø,λ_=>[],b Z aK,l.prog,az 2,dy aM,ĸ T,x.items,α->ăU,xs.map,y.symm,jv k,.BinOp,.dK [],.dK aA,.int b,.loc T,.mt us,.ref D,P Z st,PI.imp,Sem α,W.fnOf,Xn.set,ay=ĕr,b Z s1,bh y u,jN rfl,ks.map,o.getD,q.elim,qI øF,some _,some z,st++gs,ĕm,ûY,ćv,þ6,ûA,üB,ĎH,ùk,r1.vZ,rS ks,xs=ys,.bl a,.call,Rl.xE,[Ŷ],[Č7],_E.bT,_E.bU,_E.c9,_E.dR,_E.iP,_F.iW,a.map,aZ.jf,ay=st,e::es,f.sum,n::ns,r2.gj,r2.j0,s[L]?,y::ys,āb*a,Ũ b,Ăv _,Ān f,Œ+1,some (.lst (ć8)),(by intro k hk;simp only[ăz,ĎP,or_false]at hk;rcases hk with rfl|rfl|rfl|rfl|rfl|rfl|rfl<;>first|rfl|ext dU),Ŀ1 _,[.bl b0,.bl b1,.bl b2,Ż],rs.mono e1,Nat.lt_succ_self,ĈT (ł),λkv=>decide (ĔC),autoParam (vV X e es) Č,(by cases z),ĮJ _ ø,(by simpa using hb),Builtin.Int.intBits,GI aj wt Wm p b ÿ K1 row mo T R q,[x0, x1, qL d, some (tV t), x4, x5],ýZ K mainGlobals x,_A.C8 X ea oe,(by simp only[Ľ]<;>(ext aw)),GdS S T q R row rest rows W s,Array.toList_reverse,List.mem_append_left,%[("AlgebraError":Str)|true],.int øF,List.pairwise_iff_getElem.mp,þ->Int,(by rw[e];exact üi),upd H ü ķD,üy e2 _ _ r1,List.reverse_perm _,upd H ü Ĺf,(Ĵ6).get?,seqObj "list" #[] 0,(by simpa using h),Heap.get?_update_self,Gd p d aj row rest rows W,.loc Ļy,upd H ü (ġW),List.find?_cons,Nat.lt_succ_of_lt,.inl (aC b w e:Int),Array.mem_toList_iff.mp,ĺI=some r,λ_ _ z=>Ćj,List.any_eq_true,(by simpa using q),.Subscript,Calls.callWith_builtin,MZ p aj q R row rows s,base.Ns mainGlobals mg,λx hx=>h x ďN,List ExceptHandler,.ref fa,(d==sysModules)=false,ŀ1,ao aQ bo i!,Nat.two_pow_pos,some (Ľz),(ks.headD []).length,Int.emod_eq_of_lt,bN t.1 b.1,Array.getElem_toList,s.heap.IsTuple,ğK,W.findIn,s.heap.FunFrames,ă6 K ú7=true,Bool.eq_iff_iff,List.set_cons_succ,X.env.cells.lookup,List (ŭ ×V),X.cr.heap.get? b=Ă,PySem.mem_of_lookup,List (ŃT),ao aQ bB bp,%["self"|ø_],cl.lookup x=ň,cs.map ž,I.base.keep,List.Pairwise.imp,List.range',Pk s n b aj ÿ g,Up r σ lo ă2,W.isFn K ú7=true,X.base.get? b=Ă,ĉ+ûi<=sizeLine,bN u.1 e,some đr,øk true,(by simp;ext c),s1++[.lst Ćd],List Keyword,((0:Nat):Int),(aj:Int),.ok (.bl neg) st,Binds K fd ps [],List.getElem_map,List.length_drop,Nat.le_of_not_lt,TgS S R rows W s,aZ X.K O H us vs,(by unfold Rl;rfl),decide_eq_true z,some (.ins c fs),∀y,ŅZ,ģv b o e,Ņ0,Builtin.bitOr,out.push x,.Constant,f' ûP 0 lo,z=%[none|ý9],úK=.dict es ep,(Ē_).map,lZ d u.1,qD b ÿ,J.yld i H x H',List (Str×Vg),Rl W.K O H u v,λ_ _ _=>False,ċm x c e,ŅP,ao aQ aM cG,ax kI øp,.ok Ħ s1,Ēs tM,Bool.and_true,Bool.false_or,Bool.not_true,Bool.true_and,Int.zero_emod,IntsAre vs ns,List (bF×Vg),List.all_cons,Up r xs lo hi,ar s' n=đ,c_ (ąt),some (.own a),ø2<=sizeLine,α->ai->bR β,λb hb=>þL.1,aA.any Ćh,bS Đ X.w,hr.mono hk,hr r ċ,us++ws,EF W O H u v,Int.mul_emod,Nat.add_comm,Rl K O H u x,[z,TO,i1,i2],rel.val k,rowsP.length,ĢU % p,λ_ _=>False,cl.map ď,iu outer,SP X ak D,.ref z,I.bE a _ ea,Int.mul_neg,X.calm=true,ns.getD i 0,o.dict=none,some (a&&b),sp vs H Q E,y_A._auto_1,ýk+1<cLine,ġP,ÿ0 eD,(_,rfl,?_),.Compare,Array (Vd),FP.map Ė,I.bE.fresh,J.stop i H,W.mg c=ûZ,aC b w øy,ar s S=ĀM,b ∉ X.fs,body pc st,ji trivial,mo[i]?=ī,row.length,some (ûZ),some (Āq),vs.size,λc hc=>?_,∀b u,ĕG,ck ĕL,qD b w,.tup ys,(_,e,rfl),zo d aA,λz=>?_,T.length,%[k|v],.ref d,aD.snoc,bO.length,body Z aK,s7.length,sb.extBut,úD ď,λ_=>none,.fd aA,.inl q,bS P w,mC .cq,top 61,øK tM,úD cT,ûp hR,œ oQ,(ĥ').In,ýK,.int n t,.ok a st,I.turned,KV aA vs,L.length,List Str,[a,b,c],b ∉ ch,b ∉ ex,ba vs aE,if_neg y,ln F row,some bn,some ú7,some ĀK,tn i ù,x3.trans,Ă2<1000,%[b|o],(a:Int),dy bX,(f:Int),uv ry,F'.fit,qI ĕt,.fn _ _,.lst xs,.ok v s,.tup ws,AB ws e,H b=Ĥ',S3.left,W.Looks,Xr s s',Xt s s2,e.toNat,i.toNat,k∈ü6,p.toNat,s4.heap,x79.at_,ø0 ėc,Ċ r t,ĀI+øm,λq=>?_,.ellipsis,s'.length,B.length,pure ČZ,some ĆZ,yz ăX H,ăZ=true,Sum.inr,W.subIn,.ref x,eJ.nil,hint+l,ûu vs,NU x,gS d,lo+x,x::r,ù2,þ1,.dT [],.inl k,.int a,.loc D,.loc Q,Es K C,I.base,M Z st,T.cl.1,T.keep,V->ċ4,aD.put,ar s M,ay=ĕq,(by rfl),c=true,gz T e,h.elim,iE r.1,iE u.1,iW f j,l.drop,ln F B,ln F R,ns.sum,qI ù0,qr ú5,s2.set,sj k i,some w,vs.map,ü<=C,þx cT,s'[n]?,some l,h a,ėw,ĤE,Ęw,Ęy,Ąc,ď_,Ča,ĤT,ĥo,ĂS,Ās,øx,Ėh,ı,þQ,.bl k,39<=v,B.sub,Cq.of,F.fit,F.len,P.map,Rl.JX,T.obj,Z[i]?,[ĝ],[ĉd],[ĉe],[ø7],[þQ],_D.iO,_E.bj,_E.dj,_E.fB,_E.fD,_F.d7,_F.fq,a u Z,e<üv,f Ķ,j<Āo,lV kq,n % p,na+nb,qL TP,qL q0,qL ρ,r1.gj,t∈T,v::vs,w::us,x=ĝ,ùn b,øJ b,ü+3,øk b,þK f,ú2 e,ĸ n,envOfC qual scope ĸz f cd,(backTo bw (Ěl)).all ěc&&ĕO,Hp->VK->Prop,decide (Ĺt+ę1+ĕ7<30),λp=>Ńq,(ėH).names.lookup,Ő "getset_descriptor.__get__",ąo x qual ēl ÿn û3 ė kV doc pm an d5 ct,(ĠB)=true,wpAny_pure h,∀b∈fp,nU X ak H b,(ĠQ).map λz=>z.1+Ŀ-z.2,if_pos (by ext dz;show 1<=16777216;decide),A.handled=none,(λ_ _⟨h',z,a,d⟩q=>by ext A;exact hQ h' a d q),∀c o,c≠z->c≠TO->c≠i1->c≠i2->ĖE,wpAny û A (ėA ùV) Q E s,∀b o u,H b=ět->H' b=ět,∀b xs,H b=ĉL->H' b=ĉL,(_,h,λxs e=>by cases e),A.under (Ő "type.__call__" (ýY::us,kw)),sc.names.lookup x,backToKw pos (keywordEach Jj Ā),(by rw[Ńc];ext m),(by rw[Ńd];ext m),List.getElem?_set_ne,some (Ĝt),(by rw[cR,č,ĶZ];ext c),plainId_quiet ıJ _,dig ÿ (ds.map (· + 2 ^ v)),ēP İJ,ha pos ak s Y H _ I h,GI aj wt Wm p b ÿ K1 row mo T' R q',List PySem.Env,øK Ĉ9,if üV then%[t.1|v]else t,some (ĉK),Str->Str->Ăn,absurd m Ĺ8,ÿ_->uq h' e->Q ý9 Ţ,.BoolOp .And (a::ēJ) pos,behindInMarks op b=false,ho ak s Y H _ I h,(Đ5:Int),kr (ěX),some (.exc c),List.eq_nil_of_length_eq_zero,(by rw[b_];ext B),some (.dK ľW),∃o',āO b=ēU,Binds X.K fd ps [],backTo pos (ďc),∀t∈T,ùm=aC b w e->üV,List.getElem?_toArray,PE X ÿ6 (tE X E (ax f ms)),RS W bi H' Z cx,Array.toList_push,Bool.not_eq_true',ĈQ a [op] [b] pos,if āI then 2 else 1,∃t,u=đM i t,ps.zip us,Builtin.Slice.slicePlaces,üG į 0 lo,λv s1 ÿ7=>?_,IQ aj wt p b r.2,Builtin.List.listTooLong,ao aQ fI cG,λ_ _ _ _ _ _=>wj ú5,.loc L,List.countP_cons_of_pos,List.getElem?_replicate,Nat.lt_of_le_of_lt,Passes ď2 X E,compEnvC scope cl C Ā,tupleKind ĉo,(by intro _ m;cases m),λq=>bW (by simp[q]),{cls:=ûY,data:=.seq ĺ nn},s[n]?=ō->Ċ4=ō,{cls:=ûY,data:=.seq øH},some (.lst úk),ĂT .Or (a::ēJ) pos,[qL n, x1, ąx, qI þC],ą5=some ńh,ĂT .And (ēJ) pos,ĂT .Or (ēJ) pos,fL þo ĀH body,List.find?_cons_of_neg,List.find?_cons_of_pos,Nat.lt_of_succ_lt_succ,λh' a d=>(h',rfl,a,d),((f' n 0 lo:Nat):Int),ġL .Not a pos,ÿE Ń8,ÿE λj=>ž j.z,ms.map λp=>ž p.1,Heap->Prop,Keyed->Nat,PE X e ĂC,List.getElem?_eq_none,List.nodup_append.mpr,Obj.isFreed_of_fields,Paired ğW vs ks,PySem.F.slot_tuple_gt,[øx,ùY,Ā7,þQ],tupleKind_room_in1 hu,a.toList++b.toList,wpAny_holding ?_,%["_law_script"|ø_],Calls.evalArgs_plain,H d=some ľQ,Int.emod_emod_of_dvd,List (Str×ĉC),StateT SortSt Sem α,W.hasDictIn K C=true,(by cases n<;>cases h),(by unfold ĂR;ext c),dD trivial e1 rfl e2,ag ľ8 aw,ax c7 øp,(by rw[ĳ];ext c),tG ĄS E0 RB c,λq=>%[q.1|ā7],sO p e n us T,.int ĊV,Heap.get?_push_size,List.getElem_of_mem,List.mem_flatMap.mp,List.reverse_append,Nat.mul_le_mul_left,(by ext w;exact hl),rest++đ4,ĢK tM,Ām b o q n ēn,λb o e n hb hx=>?_,%[p|w]::ġ',(üZ _ _ ne).trans,λ_ s'=>uq ù7 e,Calls.spliced_cons,Int.natCast_nonneg,PE X a Ŀj,W.makesIn K C=true,aA[i]?=some Ĕl,aC b ÿ øy,ĢZ<=sizeLine,("NoInverse":Str),.Dict [] [] pos,.int 2147483647,øK øh,ĿD ċf,X.N[i]?,xs.toList.drop,ao aQ aM i!,tL X E ms,(Će).mono e2,.ok (.int ĉ) st,List.ext_getElem?,List.flatten_cons,bx (ao gC aM þS),(by ext ak;ext c),(by simp[e]),decide_eq_false h,eval e Ā,λb ob q=>Ĕa,∀u∈T,ēd,(A.any ċ6)=true,Int.dvd_refl p,binaryOp .Mult,upd H3 ü ăg,du ļ ű st=ĥ4,.int ù0,.ok true aK,Nat.le_succ _,(by rw[q];simp),f' ûP ûP hi,gu s z=Ċ5,úK=.seq aE n,List.lookup_cons,List.mem_nil_iff,(by rw[mS];ext c),wpAny_pure (ċ'),z=%[none|%[l|o]],þh=some Ą_,I.M_ x c e,Z.set i (ČJ),(by rw[he];rfl),ds.map ž,pyNext ùV,rM ā E f,.loc a,lZ d t.1,.function,.ok (.loc u) s',AllBare s'.gens,F.slot_zip_next,List.zipWith,["_law_script"],[z,TI,TO,i1,i2],ēG ēj,aG X ak Y H Ţ,ap.heap.get?,decide (j<i),on.objs.size,starEach es Ā,us.toArray.size,zs.length,λg=>F (bN e g),∀e∈es,e<ĕ,∀r∈rows,ùW,("NoRing":Str),(Ģz).map,neC b o e hx,Array α,H ü=none,(by ext M), ġF % p,%["prime"|ø_],.ok (.bl c) s1,Bool.false_and,DecidableEq κ,Rl X.K O H w y,aG X ak Y H s',cf P w H h a o,eJ K O H fs gs,j9 f us ws=ġ,xs.toList.take,λq m=>h q ŕ,.Expr e pos,ao aQ gf cG,ao aQ jS bp,ao cw bo aM,(i :: ·),tOp r ta tb,ņJ,2 ^ (w*ú_),A.find? ċ6,Nat.log2_lt,intItems xs,þW ď,%[k|ĕB],š _ hx,.tup ğ7,2 ^ (ÿ*ú_),Bool->øE,Nat.add_assoc,W.hideAll_get,nodup_iff.mpr,rows.map,s.heap.update,some (ąf),y1.mem_iff.mp,û7<=sizeLine,∀x∈mo,Ăt,⟨a,b,c,d⟩,XP X ak EX,kU Đ X.w,start N vs,tuples' !p,upd H p ob,(zM b e:Int),ċ2::outer,λr m=>ùt,I.ok.above,λ_=>?_,λu hu=>?_,%[ĂG|false],%[ĂK|false],%[ĂL|false],.dT aA,.loc b,ŉ ho,.ok true ùz,AB (Nj d aj),H2.objs.size,Lr K mg c fs,Pv i ys τ H,aD O H bv H1,pb h d es ep,α->α->Prop,λf s1 q=>?_,∀t∈l,úc,.ok .next,ąX Ė,hf c bW,(l,.inl hl),tE X E mb,tT X E tA,upd H p o,x.2 _ _ h,(ÿ8:Int),þx øh,úD øh,some Ħ,.ok true st,.tup (nV f),D4 F q 0 mo,H' b=none,I.ok.frames,I.ok.mod.QP,Int.mul_one,Int.mul_sub,List.map_id,Nat.one_mul,Option Expr,Vi->ģF,us.size,øw e _ _ r,σ.size=ĵ,.error x,Itf a ob,(o2,oG,tD),ýF .int,λ_ m=>m,λ_ z=>z,us++ds,.ok .cq s',.ok øz s',D2 G top k,LC p H v k,S.len t mt,S.num t mt,Value.bool,aC b ÿ e,aZ.ints ns,c5 A k,de Ăp Č2,jM p (ČI),jU.some_of,pure false,r.2.length,some (ĕF),some ċg,some (Ėa),uw I.bE eb,vs[i]?=Ĥ,wD p T e c,ws.toArray,zs.Perm vs,λ_ => #[],λ_ _ h=>h,λ_ _ x=>x,λ_ _ z=>z,λu m=>ùt,λw mw=>?_,λx mx=>?_,.int 40,.lst vs,.ref sl,Nj b aj,(_,_,rfl),(l+m) / 2,st++[c],ys++[y],ø8 x p,ûv øF,A.length,W.kitCls,hr q ŕ,rL rowsP,Āv+1,.err c ay,.inl h,.int n t2,.ok c' s2,F x.1*x.2,MethAt.mk,Q (þB) s,Value.int,ąW f j,be x2 Ĉ,(by ext eu),dF _ _,ht.typeIs,if_neg hk,if_pos hb,if_pos vY,intsOf us,items[i]?,jA p aj l,js.length,kQ x=true,ks.length,lexLt a b,mg x=none,nw.extBut,ou W rows,p1.isList,r2.length,s6.length,s[R]?=čh,s[S]?=Ėc,s[d]?=ĕX,some i,t.get X G,Ā1<2 ^ k,ą_=Ĥ,øk false,λ_=>true,.int o,.loc H,.own x,1*x2+0,CI fr3,iE a.1,kV k,r8 r m,(rfl,?_),(us,úq),øv ne,.int bk,I.ok.CA,r.2.map,ÿ8<ùN,þx ď,(ü6).Nodup,ŝ aj 0,IW b o q,.ok új st,[some ùg],_E.inverse,b ∉ X.ex,L1.length,_E.shared,kn c=true,.dK cg,(ÿo).kh,.tup vs,.tup xs,.bk Z st,.ct Z st,.err _ _,.int M t,.loc úw,Cq.trans,H a=none,H c=none,H l=none,I.ok.mod,O.length,Q ý9 s',QQ ĀJ x,W.codeIn,X.pn++ak,X.toList,Xt s1 s2,Y.length,a.length,b∈X.fs,dG T t.1,if_pos y,kX (ň),l.countP,o.isSome,pos.line,r y<=r x,rS (ü6),s' = Ţ,wt e<=Wm,x6.trans,ýM=none,ÿ8<=ùN,Ŵ->ĂM,ø8 x q2,ķ->øZ,λk=>ďM,az 1,b7 hp,bb gf,ff st,lV zs,nil b,sa+k,wV W,øC e,ċ1,%[k|u],.Assign,.lst ys,A.depth,ER.mono,H b=Ę,I.oT.nd,It->øZ,K r X i,List Jc,N.Nodup,T.find?,Un.kept,[ea,eb],aD.same,ar ay n,au->ăU,b::rest,bG.cell,b∈ĈB,c≠ü,dig w X,gu st n,h1.push,h2.get?,it Z st,k b u q,ns.drop,some o',some oe,some ws,sr.grow,us.map,vw st u,wR.mono,wS.mono,x=.bl c,zs.map,Ďn=ī,ďU ŗ,ú_=Ă2,āH=ûY,ĕB !=0,ø8 x q,úl ø,úD ûR,Ł _ q,Ep i,(g,?_),iE f,iK k,ia+k,lo+i,na-1,nb-1,t::T,Ďn=āf,%[k|x],.exc _,.loc d,.ref c,Di r X,Q v H',_J.sgn,ar s n,as w Z,ay=ĤE,c∈cs,hint+1,i.fmod,ib<øa,jH.mpr,jM r A,jv t.1,kv.1=k,lo+n-1,ms Z s,n.fmod,qI ČH,s'[u]?,s++üg,s.cell,s3.set,st[m]?,u.2*bk,us[i]?,us[j]?,vs[1]?,x<=ÿz,ų<=n,ħ li,Ŭ<=8,þx tM,ù1=aj,α->au,g i,rfl,üt,ćR,č7,ħ6,Ďx,Ďz,Ĩx,ăQ,ĨK,Ęz,Ąg,ďL,ĤQ,ıd,đG,đQ,đ',Ŀ,ĆB,ĥp,ĆG,ĥY,ĥ',ùN,λx hx=>hS x (ĆO (pY.mem_iff.mp ī1)),Ő "object.__class__",dP (bx ĵt) (fK "ByNought" (ag (qs "nothing is reduced by nought") aw)) aT,some ąH,.ExceptHandler (some ĝA) (āf) Ġb pos::rest,þ8 κ σ pd g none,þ8 κ σ pend mg none,(by ext dz;ext c),((top ||| G:Nat):Int),((ĈS).filter Ēe).map f,(rfl,rfl,xs,ys,us.toList,vs.toList,rfl,ia,ib,rfl,by rw[Ĩ,Ĩ,Ĉt]),λh' eb=>(rfl,ĉz (t':=s.toks) ĭ0 f0 f1 f3 f4 f5),{cls:=ĸ "list_iterator",data:=Ĵ9},{s3 with heap:=s3.heap.push {cls:=ĸ "slice",data:=ûu #[vl,vu,.none]} },Ĉj/\ăm/\∃vs,ĉA/\h.DictOf ĉo a vs,W.findIn K Ĝ "__setattr__" = some (some (Ő "object.__setattr__")),gy r (Đ7),Ĵ7,{cls:=ņY,data:=ņ'},jx A t.1 (ę0),.tup [ý5,ąi],ċW=Ę->ċV=Ę,.Call (.Name "isinstance" p) [.Name n q1,.Name x q2] [] pos,iB (kU P w) P w K mg base N qual (aI st) f d5 A outer s H E,wpAny_bind (wpAny_bind (wpAny_onRaise ?_)),s[x.1]?=some (.lst (x.2.map tM)),bx ľH,some (.lst Ġe),fK "NoPrime" (ag (qs "a prime is one from 2 to 997") aw),(backToKw bw ıw).all (λx=>x.1.isSome),iu ď7,[%[ě9|.int dv dt]],(hs.2 b (œ (ľ ýH (ģu x c IX hc)))).trans,iB CX P w K mg base N qual scope f d5 A outer s H E,["NoInverse","ByNought","NoOrder","NoRing","NoPrime"],jF P w H h,PyProof.Rows.callWith_type1,∀e∈u.1,e<=ÿz,some (.dT ĈO),{cls:=ğI,data:=.dict #[]},((ķl).reverse.map ŗ).reverse,some (.lst Ĕ1),λg=>if g=e then 1 else 0,Nat×Nat×Nat,(hs.2 b (ĸ2)).trans,[qL 0, ûO, qL q, qL R, qI Nk, qn, qn, qn, qn],∀(s:Vh)(u:Vg),BindsTo s fd ([u],[]) [%[x|u]],Array DictEntry,if([]:ćA).isEmpty then 0 else 1,sA++[.lst []]++[.lst (ıA)],λak s Y H Q I q=>h ak s Y H Q I Ĝk,upd ĘF y Ěo,λt=>decide (üV),.lst [],.int (if i<0 then -i else i),some Łj,ēY some++ŝ (n-np) none,Nf.keep λo e=>Ā3 _ o D.l1z e,h1.keep λo e=>Ā3 _ o D.i1z e,λg=>F (bN g e),some (.loc r.1),wi Y H λJ H1=>uB J k aX g tt te Y H1 Q,.dK ((Ęz).map øh),(by rw[z];exact Ćc),if b then 1 else 0,[qI ġB, qI ĉS, ąx, qL n],assignEach es Ā,λ_ _ _ _ _ _=>Uq λ_ _ _ _ _=>rfl,.lst (c j++üO),dZ ûT "width" aM,(øK ĞJ).map,0<=j/\j<=100000/\Ā1<Ğ4,λx y=>x.1<y.1,argBest (λi j=>decide (f i>f j)) j,sG.length+Ĉ5=oV.length+ĐO,∃sl,ċV=ıa,List.nodup_cons.mp nd,.Try body ĝr [] [] pos,List.of_mem_zip,v8 left (r key) (K r xs (base+i)),[qI p, ûD, qL L, qL M, qL Q, y5, y6, y7, y8],Ű (ús o mt apos) ŵ [] pos,if v<0 then(v+úC).toNat else min v.toNat n,ġg->ùn c=Ă,[ûD, qI Āv, qL M, qn, qn, qn],if x=y then þB else decide (x<y),(mo.map (·.t.1)),acc++ou (Ģc) (rows.drop j),bx (ao uI (ax u_ ŁE) bp),some {cls:=ûY,data:=.seq ĺ n},∀vs H Q E,ĈK->Ş=þo,Heap.SameBut.update ..,List.drop_of_length_le,ń8 λp=>Ė p.2,PySem.F.args_tuple_add_2 _ _,(by simp[z]),cxG X N scope cl C fp s H xe,sO p ĂI (-t.2) x.tl Ĕ8,λb o hb e=>Ĵt e,∃a vs,úT/\ĝW/\ū,λ(e:Nat)=>þC,.ins "Monic" [ŀ_],ao jc aM bp,(apos.endLine==bw.line)=true,backTo pos (Ěl),pM (T'.map øh)<=pM ĐA,∃t,u=ĠD x t,Nat.not_lt_zero _,Y.set i ÿP,ag aM (ag bo Ĝg),CS P w K mg base A outer s H,PyProof.Rows.boot_isinstance,["prime","order","row","by"],l.filter ĵb,some (.tup [.loc Sc,ąi]),Ĕs=đ,sliceBounds lo hi none n,λ{a c}ma mc ne e=>ne ?_,.int (if j<i then j else i),W.emptyDict,[Ō, ġ, ċO, ýz, ČJ],_J.aG a b g0 u0 v0 g1 u1 v1,(by rw[<-ğx];ext o),h1.symm.trans e,if āZ then%[p.1|v]else p,wpAny_bind (wpAny_letGo ?_),λcls ea H'=>EX cls ea Y H',∀j∈js,ĸh,%["_law_shape_here"|üH],(i,j,ùK,ùL,bQ sr q),(i,j,ùK,ùL,dO sr q),(zH4 b1 b2 ù l1 l2).úz,Builtin.Tuple.tupleExact _,(by show 2<=sizeLine;decide),rowsP.map ŗ=ē5,(show k+1+i=k+Ē by ext c),∀i,hi<=i->i<n->ĠL,∃q∈kq,ā9=đd,A.in1.handled=none,ÿ0 cT,Str.ofString,š _ mx,(û2 aj).map λi=>aj-1-i,Builtin.SmallTypes.nextOf,List.getLastD_eq_getLast?,rk ks (kf x.1),dZ ûT "by_degree" aM,X.mg "isinstance" = none,ģI<=sizeLine,mroIn K C (Ĝ4),relabel scope Ā,some {cls:=ė,data:=ûu ps},(X.K,X.mg,[]),.int (_F.maxD dv ns),List.cons_ne_nil _ _,λk e=>(k*ĕ) ||| e,I1.bE.fresh,Int.toNat_of_nonneg ø,K r σ ģd,List.countP_cons_of_neg,PySem.F.entry_tuple_add,PySem.F.plainAttrs_dict,ĒW K d5 qual=true,e2.trans,i.natAbs.log2,kp c o bW e,kp c o bW q,putK aA k v,starEach [ēf] Ā,aj=1\/ğe,decide (r x<r y),decide_eq_true e,x ≠ "__name__",ao f ma mb,some ąB,some (ċ8),λA t=>ĕE,.int ((Ćm i:Nat):Int),Ld s' L zs b ÿ T' q',List.pairwise_cons.mpr,PySem.F.slot_tuple_add,ao cw (ao k_ bB fI) aM,ao gb aM (ao du bB bo),dH (ē3 Ğp),j9 (i? ÿY st) us us,starEach [ē9] Ā,uC X ak Y s Q acc C s',û0/\∀n c,n≠F->ÿ9,∀f,jU (ą_) (mA f),ċq tV,(by rw[þi];exact q),(show 0<p by ext c),2 ^ (w*(ú_+1)),Bool.eq_false_iff.mpr,List.Perm.append_left,Option Value,Option.map_some,PySem.F.slot_dict_get,Ċm K Ĝ ĕC=Ğ,(by rw[<-z];exact nd.1),cs.Pairwise ńY,iJ K O H c a,k b o (λz=>hc ĖQ) e,sH k aX Z,ąb λx=>ü2 x.2.1,ĕ*ûn+d,gz T t.1,(by rw[Ľ];ext c),(by rw[č];ext c),(by simpa using hi),(by simpa using hu),(e'.trans e2).trans,upd H dx ğU,ćn b o e n hb hx,AV X ak Y H s ea cls,Array.mem_toList_iff,List.mem_of_mem_take,Nat.eq_of_testBit_eq,Paired (PrK H) vs oh,W.plainOver K C=true,of_decide_eq_true m2,ą5=some (.dK ýC),⟨Z,O,st,rs,sr,h⟩,.tup (ąu kV),W.plainGet_of hg,ao aQ bo cG,ao aQ fI bp,ao aQ jS cG,b9 k aX it a c e,(by rw[cO];ext B),(hi-lo).toNat,λ_ _ q=>Ĕa,.str "__class__" tk,EntryCells.newEntry,List.all_eq_true.mp,List.length_zipWith,Nat.le_add_left _ _,Runs r σ þM 0 ĵ,[qL n, Ĥ, qn, qn],aY _ _ _ _ [] _ s _,ai->bR Bool,cC xs lo hi,h.Ns mainGlobals mg,of_decide_eq_true e,rest=List.zip sG oV,Čp (λy=>z ąc),Ł _ (ùh),∀i,i<lo->Ģj,.Tuple es k pos,PIE X ak Y tg R,(Y[j]?).getD none,(eO _).mem_iff.mp,putK aA p.1 p.2,(Ē_).filter,λx1 x2=>x1++x2,∀d∈ds,d<ĕ,List.prefix_refl O,Nat.sub_add_cancel,SeqAt.EqAt.int_str,SeqAt.EqAt.str_int,(by rw[q5];exact q3),(by subst ni;ac_rfl),j9 ńD us ws,mg d.name=Ċi,rowsP.Pairwise Ėt,∀b∈fp,∃o,Ŵ,.int (ùN:Int),CB hN hv hd AF,bZ (ag čU aw),bZ (ag Ć2 aw),compareOp .LtE,gZ (cl:=[ćk]),Ām b o e n hx,Calls.spliced_nil,Gl X "isinstance",List.length_range,List.pairwise_map,Nat.le_succ_of_le,Nat.lt_trichotomy,Option.isSome_map,ĊI hl Ć_ ĆQ,(by simpa using bW),(by simpa using h1),(by simpa using hz),ln ğ6 (q i),nq aj wt Wm p row,pG t.1 0 ĖH=none,s.heap.IsCell c v,s3.heap.objs.size,stored xs q.1 q.2,x.1.map Int.toNat,{s with heap:=h0},{s with heap:=h2},{s with heap:=h6},λs g h=>a_ s g h,∀e∈u.1,e<=top,W[j]?=Ċ0,c5 A t.1+t.2,([]:ćA).length,(at_:Int),(ąr).bind _,compareOp .Gt,compareOp .In,compareOp .Is,cx.set i none,ąu (Cy p),st++[ÿa],(yz h H).get? b,I.aq i y hy u mu,IQ aj wt p d r.2,K r b 0<=K r a 0,List.ext_getElem,Nat.mod_eq_of_lt,Runs r X L lo hi,X.env.scope.kind,aZ K bi H' us vs,aZ W.K O H us vs,(by rw[jT];ext B),(by rw[ă,ă,l]),c*48271+øe*7919,starEach ŵ Ā,þh=some ēr,ĸ "ValueError",.ins C dx [],ģs b hb,(Ċl a:bF),fM j' bB ýd,st++[Ċx],Ő "sorted",.str ⟨#[c]⟩,List (ŭ ×au),List.foldl_cons,Nat.and_le_left,Nat.mul_add_mod,Pk s n b aj w g,SR W.K bi ay H',SR X.K bi ay H',decide (n<=997),jn b1 ù l1 xs,jn b2 ù l2 ys,k*ĕ ||| e,kindOf st v,s.heap.Ns øD m,scope.names,some (.lst ĥS),starEach [] Ā,ĀH=k+aX.length,Ć' K Ĝ f=þY,Ć' K Ĝ m=ČA,λ_ _ _ h=>oS h,λt:eZ=>t.2 !=0,λx mx=>h x ėy,∀e∈es,ċH,∀e∈es,e<ŋ,∀r∈rows,Č3,∀y∈B,le x y,.int u.2,tL X E m,tS X E a,tT X E t,!(ĔF i==0),TP X ak Y Q,_F.pq p ù,ao aQ aM bB,e1.trans e4,ĔD,(lo-hi).toNat,mC (.int 6),some (tM u),upd H p þu,yW us lo hi,(ø0 ĕD).úz,ĆT a b pos,(Ć7)[j],(ćp j m).map,λx => !x.1,λz=>bW ĖQ,.dK (rW oh []),.loc aK.length,.loc s8.length,C6 b1 K H a xs,C6 b2 K H b ys,FoF aj ig last,List.take_succ,Nat.mul_le_mul,Nat.testBit_or,PySem.Fin->øE,W.Pairwise Ėt,h₁.objs.size,j_ t body Z st,s++[ą āX],some (.dK Ďl),some (.jl o u),wG b ÿ p x r,xs.all kQ=true,Ũ ea=ēV,∀t∈row,ăx,∀u∈row,ĕW,∀x∈e,x<=20,bN z.1 u.1,dig ÿ ds,eval a Ā,eval b Ā,.jl ob ü5,I.ja x c e,W10.2 x mx,bO.map ĂW,(c i).length,(cb b w t).1,(t:Int)+1,upd H a o',(· + ·),.int ĢZ,.ok x s1,.tup (xs++ys),FP.contains n,Int->Int->þk,IntsAre oV y',IntsAre sG x',IsTup.new _ _,List (κ×Vg),List.map_take,ċq cT,Value.builtin,X.env.globals,[ą (nV gs)],decide (2<=n),decide (i<=j),dig ÿ (Čb),intsAre_of r1,kN X.K H a vs,mg x=some û9,qs[i]?=some q,some (.lst _),ėx "default",ċV=ēU,λr s' hq=>?_,∀t∈ts,ăx,%[u|j.rs],.int (-i),Or.inl hl,(_,ùh,rfl),ag aM ùq,ag bB ýd,ag þS aw,ax zj ùq,(h:Int),k Y H Q q,kJ p x.bk,tE X E md,upd H x o,(v,H,I,r,h),(ø0 _).úz,(û2 n).map,ĸ "int",.FunctionDef,.ins C dx fs,.ok (čZ) st,.ok (ĕF) s',.ok false s1,.ok false st,Around.under,Bool.true_or,Code.isFrame,I.base.there,Int.zero_mul,List.all_map,List.set_set,Option (ć),W.callWith_K,Xz L zs s s',["_law_one"],[x, y, qI q],absurd rfl h,ai->bR (ý),ar [c] 0=ĀM,as.length,(by simp[dig]),ģO=true,env.kindOf x,gr (r:=r) i3,gr (r:=r) j3,h.IsListIter,h3.objs.size,if_neg hz,kN K H a ýb,ob.dict=none,rows[i]?=ýz,some (.dK _),some (.dT _),valueAt vs k,x2.2 _ _ ČL,ýk+64<cLine,ĸ "object",α->β->Prop,λ_ _ _ e=>e,λt=>t.2 !=0,.int c,bx ĖX,hint-l,(k2:Int),.bl (!b),.inl ø,.loc üc,Q! false,(_,ho,rfl),(_,oG,rfl),aN 2 þS,aN 4 þS,ag JY aw,ag cG aw,ag gf aw,ag i! aw,ag v5 aw,arrOf st,as.map f,(b,rfl,hb),e.at_ ha,h₀::hs,(k',u)::aA,nV (Ć7),numAt xs,qs "deg",re::rest,s++[ÿa],some øF,uE b1 l1,ø8 x np,(ûv a:bF),λ_ q=>q,λhm=>?_,.ok true s1,Data.cell v,G.testBit i,Gm s cs c k,I1.kept,Nat.mul_one,Nat.or_zero,Nat.pow_add,PA X es Ďq,X.fn x=true,X.jp b=none,aD O H O H',ee K mg tab,flat u=true,h.Ns1 dx mA,i? n st u w,jB aj wt Wm,kN K H p xs,mM K H a vs,n<=sizeLine,o.slots,rest.length,rs3.mono e3,some (tM b),um xs i=Ĥ,v8 left k m,y_C._auto_1,y_G._auto_1,ü8 ø ø,ĥZ=pure cl,λb o e=>?_,λb u q=>?_,λi n e=>?_,λz=>ne øP,((āb:Nat):Int),(dh 0 ă1,úq),ar s R=some úk,∀x∈e,ĔQ,scope.kind=Ď2,wpAny_bind üI,ă6 K Ĝ=true,tE X E ė4,P.foldl ė7 A,λx H'' y=>?_,u0-ú4*u1,v0-ú4*v1,Fn r A ks,List.mem_map,üG ĉ 0 lo,pq p ù,some ý8,īp C dx,[a,b,Ā7,r],cC X sa ĉw,ėV<1000000,r.2≠[],%[ü|če],.lst ws,.ref i1,.ref i2,(K,mg,Tu),(K,mg,pn),(_,rfl,h),(_,rfl,r),(args,kw),g0-q*g1,h q ŕ,hr q mq,ic l [],kJ p bk,ks++[k],lex rfl,(q i).map,rle r,zo n aA,(ø,ø),(ăO:Int),ĉf p s,ĕ*a+b,ĕ*c+e,(ſ).map,(Ĥ8).úz,(ùj e).1,œ ýH,.int (i*j),.int (Đ7),.int (ĕB),.ok ùJ st,.ok ÿK st,.ok øz s1,2 ^ 100000,F.binds hb,ċo t mt,KT H aA xs,List (üm),List.foldl,Rd H a Đd,Vg->Sem Vg,W.plainGet,acc.length,acc.map tM,acc.toList,aj=2\/aj=3,ap.heap.Ns,b!.rt v st,b.1.length,cg.map ď,env::outer,es.map ĖV,eval e env,false=true,fs.map ď,gz r.2 øy,hit.typeIs,intsOf üW,kat_nil ?_,ln (ĕ1) P,mo[j]?=ī,out.toList,ox.cls=ýY,r x xs H Q,rel.length,ro.map ĂW,s'.os=s.os,s4[n]?=ō,t D EX Y H,us.isEmpty,vy trivial,w.2.map tM,we o=false,wpS_pure h,x.bk*x.t.2,ĸ "dict",λ_ _ e=>e,λ_ z=>Ćj,λ_=>false,λl hl=>?_,λo MC=>?_,λz=>h øP,∀b u,ħd,∀c o,ĖE,.inr q,.int 9,.int x,.own y,.ret v,LC p H,O++[y],a2 q m,a2 r m,bx ĩK,hint+o,hint-o,iE c.1,k u aK,(k,x)::r,mF F y,nV t.1,nh e f,oO _ _,re::es,some e,(us,Ĩj),wf::iI,xi h H,ėU e4,øU tM,(ār).OY,øv hb,ûp hS,Ėz hz,-(ýT)<=k,.ok zs s3,2 ^ (w*0),Bool->Ę7,I.ok.glob,I1.turned,Int->Bool,JS.get? b,K r X ă2,K r X Ě4,K.In base,MulOk i j,Nat->Prop,Option HO,PA X es t,PE X o ta,PE X o td,Paired.RQ,T.any ĕ',Ts.map tM,Value.str,W.takerIn,X.A.units,X.N.Nodup,Xq S s s',Y[i]?=ĀP,[ĐB,þF],aC b w es,b i=false,b ∉ ĕP,(by ext aT),cC a 0 na,cC b 0 nb,ds.zip fs,e.reverse,es[i].key,f.reverse,h'.DictOf,hi.length,h₁.get?,if_neg hb,jW f v fs,jz aj u.1,kE st d k,kQ y=true,keysOf us,ln Ėg us,m.fdiv 99,pG e i fs,qi k aX Y,r x y H Q,r'.length,rb.length,s[F]?=ħc,s[T]?=ĕ0,tb Y H1 Q,zP e*21+x,ħm &&& f,ýN X G a,īp C ü,Ũ a=Ă,Ũ c=Ă,þK a=Ă,ĸ "zip",ĦO*48271,σ.toList,ėU e3,%[k|Đ7],(2:Nat),H øy,K8 es,(QR,e2),Qv mo,a! hL,a! ha,ds++X,f v u,(g1,g2),i::xs,j::ys,n*u.2,nV ys,(p:Int),t? aj,yT cG,zV aj,ûz+c,ŉ q,Ŏ-1,ĥP z,Ć3 w,ĸ k,.UnaryOp,.error e,.inr rfl,.int 0 0,.int i t,.int ø2,.int úC,.int ùx,.int Ėl,.loc øu,.lst Ĉq,.tup ÿQ,CY _ _ _,Cx->Prop,Data.seq,Env->ør,Es X.K C,I.oT.del,I.ok.blt,I.ok.inj,Int->Int,K r xs j,List Rw1,M.length,Nat->čx,P.take i,P.zip vs,Str->Ęo,Vg->Prop,W.drop j,[%[f|v]],[.loc 0],_A.start,aC b v e,aC b v f,aX[i-k]?,b i=true,b!->Prop,ba ys aE,bh Ēl u,dI j X.A,dd.mapOf,dig w fs,es.foldl,h c Z st,h.me.fin,h.ok t m,hd d ċ,if_neg d,if_pos d,j.natAbs,j.ts.map,jx A k v,k b ob q,k2 b o e,mF F x e,mg x=ûZ,n ∉ cs,nV (Ēw),ou W' bO,qI (ú4),r.1=none,r.inj r',rest.map,sc.names,some p.2,some ė5,some ė6,some Ď0,some Ęi,some ĤV,some þu,some Ėp,u.2*x.bk,x0.trans,x4.trans,x5.trans,xs=[úI],z.length,zs.Nodup,Ŝ a st,ùp==Āj,āp=iE e,š _ h2,š _ hq,Ā::Ąx,Ă0/\ĕW,ķ->ýi,λt=>ùm,λx=>ėC,μ.to x1,A++B,(_,e1),i-lo,lo+k,tC v,tM t,(·.m),-úC<=i,.inl hs,.inr ha,.int dv,.ref it,2 ^ 400,2 ^ İC,Bx p us,H a=Čq,I.oT.ok,I.ok.IU,I.ok.IV,I.ok.Nn,I.ok.RT,I.ok.bs,I.stack,I.write,I1.laid,IsD H a,K r a i,K r b i,L7 v st,List β,Vb->Int,Vg->øE,W.excIn,X.N[j]?,aE.size,ar bP n,ar s1 n,b∈ĕP,b≠ü,c pi st,dW n us,e.trans,e∈ĉk,h r ċ,h u ċ,h.trans,jz aj f,mA name,ms Z st,n1.symm,oR'.fit,oc.data,q _ āz,r &&& G,rZ L st,s'[Fc]?,some sE,t D Y H,t.1∈K,u.1=t.1,um us i,vw st w,w*j+w-1,x0+q*x1,xs[k1]?,xs≠[],ø0 ĕx,ų<=63,ÿ8=ùN,ùp*úL,øU ď,ÿo=ĎI,ďe=þ5,ùI=ěO,Ň a b,ÿ' ě,ĝI Āl,Ćm Ĝj,Ķk::us,Čl=ýf,Ćp=ČA,úl ě,ù1-1-i,Š=ň,ùF=ũ,α->øE,λg=>?_,λi=>?_,øa-1,aB (aN 6 (ax üP (ag aM (ag (ao cA (mC (.int 50)) fI) aw)))) (aB (aN 7 (bL (ag (cH (ag ĺ8 (ag (ao cA cG (ao cw jS Ĺm)) aw))) (ag (cH (ag bX (ag (ao cw (ao iL jS ĹB) ýe) aw))) aw)))) (bH (fM bD gf (ag (ax ÿ1 (ag ýe (ag (ao cA tJ (bL (ag (cH (ag (ax n_ (ag (ao du (bL ø6) Ć2) aw)) (ag (ao cw (ao iL jS (mC (.int 9409))) ýe) aw))) aw))) aw))) aw)))),aB (aN 5 (ao aQ (ax Ăf (ag ć5 İE)) bp)) (aB (dP (bx (ao gC (b9 1 [5] (dy ăn) ĩ (īu) aM) þS)) ť aT) (aB (aN 6 (ax ÿ1 (ag þH (ag (ax ąS (ag (ao aQ ü7 gf) İE)) aw)))) (dP (oU (bx (ao gC jS þS)) (fJ (bx (ao jc bo þS)) (bx (ax _E.d8 (ag ć5 (ag jS ùq)))))) ť aT))),aB (dP (bx (ao gC (ax bJ (ag gf ľ2)) Ĩd)) ť aT) (aB (dP (bx (ao gC (ax bJ (ag gf (ag ć5 ĪG))) Ĩd)) ť aT) (dP (bx (ao gC (ax bJ (ag þH ľ2)) (bL (ag ÿ5 (ag ĂF ıq))))) ť aT)),aB (aN 4 (ao aQ aM bX)) (aB (dP (fJ (ck (bx (C? "tuple" gf))) (fJ (bx (ao gC (ax c7 ĝk) i!)) (ck (bx (ax _E.cz (ag ĺ' øG)))))) ť aT) (aB (dP (fJ (ck (bx (ax _E.gp (ag ďB aw)))) (fJ (bx (ao ltV ďB cG)) (bx (ao geV ďB bo)))) ť aT) (dP (oU (bx (ao uI bX bp)) (bx (ao leX (ao aQ (ao aQ aM (ao gb bX cG)) bp) ĺ'))) ť aT))),aB (aN 5 ľ_) (aB (aN 6 (ax _E.cL (ag bo (ag fI ýd)))) (aB (dP (bx (ao Ŀc jS ĉp)) Lx aT) (aB (aN 7 (ao gb fI (dZ ýr "top" ĺ9))) (aB (aN 8 (ko bB fI)) (aB (gO (ao aQ gf jS) tJ A3) (bH (ax _E.c6 (ag aM (ag bB (ag (dZ ýr "tail" ĺ9) (ag tJ (ag (yT A3) aw)))))))))))),þ8 κ X pend mg none,jI "many" āL ĬV,dP (bx (ao jc Ć2 v5)) (aN 2 (bL (ag (cH (ag i! (ag bp ø6))) (ag (cH (ag bp (ag i! ø6))) (ag (cH (ag cG (ag cG ø6))) (ag (cH (ag bp (ag bp ĝl))) aw)))))) aT,aB (aN 4 (ao iL ćj ü7)) (aB (aN 5 (ax n_ (ag (b9 2 [4] (uO false false Ĝg) þG aU (Ęb)) aw))) (aB ńr (aN 3 fI))),compEnvC scope cs C Ā,∀oe,ûG=cls->ts ea oe {nx:=λcx H'=>D.nx ę7 H',rt:=D.rt,bk:=λcx H'=>D.bk ę7 H',ct:=λcx H'=>D.ct ę7 H'} įT H,de Čv λus s1 Ĵd=>?_,λr s'=>r=.ok (.ret āT)/\OldK ăX ù7/\s'.os=ap.os/\Ď4,aB (aN 7 (ao cA fI bX)) (aB (aN 8 (ao cw (ao cA (j? bo tJ bp) (ao du gf jS)) aM)) (dP (bx (ao gC A3 bp)) (gO bo tJ A3) (dP (bx (ao Łr tJ bo)) (bH (ko bo tJ)) aT))),iB üb P w K mg base N q û3 f d5 A outer s H E,iB üb P w K mg base N x û3 f d5 A outer s H E,.inr (T,_,_,h1,ne,ĆH _ hT (čC (Āp dT _)),Āp dT _,by rw[į8];exact h3),∃m y,z=%[some m|y]/\łF,aB (bH (ax _E.fU (ag aM (ag bo (ag fI (ag bX ĝk)))))) (dP (ĖJ) (aB (aN 7 (ax qw ŁE)) (gO jS tJ (ko fI tJ))) aT),("dict","dict.items",ėS,İZ,PySem.F.type_dict_items,t1,t2,ĆU rfl (ĴJ t3)),cxF X N scope cs C fp s H xe fn,(λx _=>by cases x<;>rfl),.ins "Monic" [%["top"|.int øF],ľN],wpAny ýh X.A ĭt (λ_ s2=>∃x H',Ļ_/\ý2/\ćZ/\tn (i+1) s2.heap/\ŀ1) E s1,aB (bH (fM bD (ao aQ Ě2 bX) ø6)) (aB (bH (fM bD (ao aQ ĺ_ bX) ø6)) (dP (bx (ao gC aM bo)) (bb ÿ5) aT)),["ValueError","abs","all","bool","dict","enumerate","int","isinstance","len","list","max","min","range","sorted","str","sum","tuple","zip"],["enumerate","zip","dict_itemiterator","dict_reverseitemiterator","odict_iterator","itertools.zip_longest","itertools.pairwise"].contains n,(I.xj rfl un bE øS λc bW=>by let⟨f0,f1,f2,f3,f4,f5⟩:=hf c ħi;exact Ļi),(items.toList.drop (ćT)).take ń4,(by rw[ă,ĳ]at hs;ext c),bH (fM bD gf (ag (gX "Packing" "sum_of_terms" ċA bo (ag (ax _E.cy (ag aM (ag jS (ag (dZ ["Monic"] "back" fI) aw)))) aw)) aw)),(ok.mod,ok.kind,ok.glob,ok.blt,ok.above,ok.inj,ok.has,ok.RT,ok.hd,ok.frames,ok.Nm,ok.exf,ok.bs,ok.Nn,ok.CA,ok.IU,ok.m8,ok.IV),bL (ag (ax kI øG) (ag (b9 1 [] ĉR ĩ aU ć6) aw)),aW X ĿB (λxs H Q=>∃a O us vs bs,ÿO/\ě5/\ćJ/\ŀp/\Q Ĵh H),wpAny_comprehension_free rfl hs B.sk B.kind B.names (de (hi ak s Y H _ I (xy h)) λxv ap h₁=>de h₁ λitv dL v4=>?_),ø0 {cls:=ņY,data:=Ňa},wpAny_pure (ĎR),(∃o,ùn e=Ă/\āH=Ĵ8)->E (.ref e) Ţ,some (.tup (þd kV)),T'=[]\/∃t∈T',qw [.loc L] s'=.ok ęv s'/\(∀u∈T',ēd)/\ęP,Ķ3/\sI+1<Ŏ/\tX<øa/\ia+ib+1<=sI+tX,cZ (λq=>wpS_pure (ę,.inr (_,_,_,_,_,_,rfl,m3,ø,ø,ø))) λq=>wpS_pure (ę,_,_,_,_,_,_,rfl,m3,ø,ø,ø),cZ (λq=>wpS_pure (üL,.inr (_,_,_,_,_,rfl,m2,l1,ø,ø))) λq=>wpS_pure (üL,_,_,_,_,_,rfl,m2,l1,ø,ø),cZ (λq=>wpS_pure (üL,.inr (_,_,_,_,_,rfl,m2,ø,l2,ø))) λq=>wpS_pure (üL,_,_,_,_,_,rfl,m2,ø,l2,ø),(ķ1 λp => ! īI || (Ņ_).contains p.1)=true,(λv q=>by have q':ħ1:=q;cases q'),(ķ1 λp => ! īI || (ĈA).contains p.1)=true,aB (bH (fM bD bB (ag (ao cw aM Įw) aw))) (aN 0 (ao iL aM Įw)),(by rcases h with h|h<;>(have m:=ćh h;have z:=Ę1 has _ m;simpa using z)),(č9,č9,Ām,ľo,Ąm,Ąl,Ąn),dP (bx (ao Rx (ax ā3 (ag aM ľ4)) (ax ā3 (ag aM (ag ćj aw))))) ńr aT,∃sJ sL out mg c1 c2,z=(none,sJ,sL,out,mg,c1,c2)/\Ĩa,h2.keep λo e=>ÿj _ o ŅB (Ąr _ o D.i12.symm (Ā3 _ o D.i2z e)),ĞM Ĝl,List.mem_singleton.mpr rfl,ćU/\∃σ pd g,ĊK/\øX/\(∀j,lo<=j->σ[j]?=Y2[j]?)/\Runs r σ pd.toList 0 lo,Mh r a b out na nb,Mm r a b out ia ib,∀b o,ķb->jp b=none->ēL->∃sl,Ġq=ıa,de (h pos ak s Y H _ I hq) λus s1⟨xs,H1,I1,r,z,q⟩=>(by rw[<-úb];ext o,?_),wpAny_bind (m:=ėp) (wpAny_newObj_type ħY Ex),(Z,O,st,rs,sr,?_),ěY "BaseException.__getattribute__" == ěY "object.__getattribute__",(by rw[<-ĝL,Nat.mul_succ,Ĉt]),(I.xj rfl un bE øS λc bW=>by let⟨f0,f1,f2,f3,f4,f5⟩:=hf c bW;exact Ļi),if Ĉm=true then aA.map (ĪC)else aA++ċv,s8.heap.update ü Ņn,wpAny Ć X.A (f ĈN (.int j u)) Q E s,Jr.keep λo e=>ÿj _ o D.l2TO (Ąr _ o D.l2i1 (Ā3 _ o D.l2z e)),[%["Packing"|["by_degree","many","width","guards"]],%["Monic"|["top","back","tail"]]],rE k aX Ŀl Ł6 čW ĵ8 Y H Q,By hr.units (ĊL) T.b.2.2.2.2.2.2.2.2.2.2.2.2.2.1 PyProof.Rows.Boot.«sorted» ?_,ao zi cG (ao gb (ao cA (ao du Ĳi aM) Ĳi) cG),bH (fM bD bB (ag (cH (ag fI (ag (ao du ăn ďB) aw))) aw)),(ķx==0&&ÿw==1&&ń4==ûP)=true,(λA' Q' E' s' k z=>by exact wpAny_bind (wpAny_loadPart (k _ _ he) (wpAny_pure z))),HJ.toList.zipIdx.foldl (λa(q:Keyed×Nat)=>Ļ8 (sa+k+q.2) q.1) X,Sh ha hb I h λv u s2 x y H2 I2 rx ry q=>ho ak s2 Y H2 x y v u Q I2 rx ry q,T4 I sr 15 (C9 I sr 15 X.A.in1 ĭU) ø r1 rx r2 ry e,(Ċa).push (ġe),List.map_eq_nil_iff.mp,Ũ p.1=ĢM/\H p.1=none/\p.1≠øD/\p.1 ∉ X.fs/\∀v,p.2.data≠ā0 v,λHJ g gd=>wpS_bind (wpS_modify (wpS_bind (wpS_get (wpS_pure (fin HJ g gd))))),ig.map λe=>ý7 (nV e),Ő "BaseException.__getattribute__",(by rw[aO (aS z hT)];ext o),λy=>if left=true then lt' y key else lt' key y >>= λc=>pure (c.map (!·)),üX _ (üX _ (jV hb e)),Bn "Monic" _E.dB (ag bB (ag (gX "Packing" "terms_of" _E.cK bo øp) aw)),(by ext bz;ext c),closureFor scope Ā,λi j x h1 h2=>A.at_ i j x h1 (by rw[<-hN,ĶY];ext ai),Vg->Ğ',["AlgebraError","NoRing","NoPrime","NoInverse","NoOrder","ByNought"],∀p∈ms,∃(t:Int)(l:Nat),s[p.1]?=some (.ins "Monic" (DZ p.2 t l)),.ok (ĞY) st,Builtin.SmallTypes.ownedTupleIsFree,aN 4 (ao cA gf (ax ąS (ag (ao aQ bo fI) (ag ĺ8 aw)))),if c1=b1/\c2=b2 then .ok (Ąt,λbP=>g1 bP/\g2 bP) ay else .bad,(λx hx h=>by have z:=Ę1 names x hx;simpa[h]using z),λz=>e (h1.trans z),((ĲW:Nat):Int)-((dig ÿ (fs++σ):Nat):Int),K w.params,W.WalkO q loose XP YP ŃD d [] ĭ3,{JK with scope:=ėH},(ğu++Ĳf++Ĳg).reverse,(üZ _ _ (λz:S=b=>by rw[<-z]at hb;simp[U0,hSl]at hb)).trans e,λh' eb=>(rfl,ĉz (λb o hb q=>eb b o hb q) f0 f1 f3 f4 f5),notedBy Ć X.A āV λx s'=>RR øV āV ĐR s',Bp K "Packing" "exponents_of" "Packing.exponents_of" ńH,Bp K "Packing" "sum_of_terms" "Packing.sum_of_terms" ńJ,ąo x x ēl ÿn û3 ė kV doc pm an d5 ct,[đc,some (āj),some (ĊA),some (āA),some (ĊB),some āR,some ńj,y7],ąo "law" "law" (ff ĉq) (cV ĉq) (aI ĉq) ė adt adu adv ads aa7 adw,de (hr pos ak s1 Y H1 _ I1 q1) λus s2⟨xs,H2,I2,r2,q2⟩=>(úY,H2,I2,Ċ r1 r2,q2),∀(A:Vj)[5](s:Vh)(Q:U!)(E:U!),ĉM->Q ùV s->wpAny ýh A ļ4 Q E s,PS X (.Raise (some (Ű ĝA ğ_ [] bw)) none pos) (tS X E (fK x ms)),aN 6 (ax ûI (ag ýe (ag ĘS (ag ĘT (ag Č5 aw))))),Ŀ5->ēH=đ->bi[n]?=Ō->∃vs,kN K H' a vs/\Ěg,newFunctionEnv scope ěZ cl [] X.env.qual none ė (some Ā),Đ9=Ċ3/\û6/\(∀u∈row,∃w∈P,u.1=w.1)/\Ĉ2<=P.length,de Čv λus s1 Ĵd=>hc ak s1 Y H1 vs us Q I1 r1 q1,āQ ÿ ĭZ,ax _E.jJ (ag (ax üP (ag bB (ag (ao cA Ļa aM) aw))) ýd),dP (bx (ao jc (ao Hz (ao gb bX (dZ ýr "top" fI)) aM) aM)) ēk aT,λz=>wpS_pure (h X pd mg (ĂN) (ú5) (λi j a1 a2 a3=>?_) hpd),(ļm λp => !(p.2 == .local) || Āk p.1==ùZ)=true,wpAny ýh X.A ĎY (λr s1=>r=none/\aG X ak Y H s1) E s,Builtin.Builtins.bindParams "max" ["key","default"] 0 ([],ĕQ),List.find?_eq_none.mp hf t mt,ax ąT (ag bo (ag (ao cA Hb (ao du (mC ğS) aM)) øG)),swapsWith value (some (ŃU)) Ē8 Ā=Đ',swapsWith value (some (Ń2)) Ē8 Ā=Đ',∀b ps,H b=some (.M9 ps)->∃more,H' b=some (.M9 (ps++more)),ąo name qual params body scope dV kV doc pm an d5 ct,Z=[qI a, qI b, some (Cz g0 u0 v0), ķj, o, f],fW trivial rfl rfl rfl (fW trivial rfl rfl rfl (Ĉ0)),if -(Āo)<=j/\ċJ then .ok Ğb ay else .bad,þn base l e cls a0 h',(λx hx h=>by have z:=Ę1 iH x hx;simp[h]at z),("__classdict__":Str),ao du Ĳh aM,wpAny_eqBool_int ?_,(x*x).fmod 2147483629,ģH=ī/\į6/\į5,[.lst [.int (g0-ú4*g1),.int Ğk,.int Ğl]],cH (ag aM (ag (ao cw (ao du bo (dZ ýr "back" bX)) bB) aw)),dP (fJ (ck (bx (ax _E.gp øG))) (bx (ao ltV bB bp))) ť aT,wpAny û A (Builtin.«tuple.__gt__» ([Ņ,øM],[])) P E s,ÿj _ _ D.TOz.symm (Ąr _ _ D.i1z.symm rH),kY įu įv,aG X ak Y H' {s with heap:=h',gens:=g',drawn:=d',toks:=t'},ĠW ü=some {cls:=ûY,data:=.seq ķJ 0},sr.set e rfl rfl ha hl Ć_ ĆQ (_,bg,(p.put q rv).mono aK),λak s Y H v u Q I r q=>h ak s Y H v u Q I r (k v Y H Q q),ąo m q ēl ÿn û3 ė kV doc pm an d5 ct,ck (bx (ax _E.fE (ag bo (ag bB (ag bX ŁF))))),wpAny_bind (wpAny_setField_rec hz Ĉ λDa rH ap=>?_),ēt [ø8 x pos'] e pos,λq=>wpS_pure (ę,.inl (_,_,rfl,mj.done ğR)),λq=>wpS_pure (ę,.inl (_,_,rfl,mk.done ĉn)),Array.getElem?_eq_some_iff.mp,kM Ćq Ġb (tS Ćq E0 s),p.1=q.1/\H ā7=some (.tup (p.1.map kV))/\bh p.2 q.2.2,fK "NoOrder" (ag (qs "an order is lex or deg") aw),λz=>hb (by rw[z];exact List.mem_singleton_self _),Bp K "Packing" "__init__" "Packing.__init__" ńF,Bp K "Packing" "terms_of" "Packing.terms_of" ńI,cH (ag (gX "Packing" "exponents_of" _E.bM bB øp) ùq),some (.lst ĉr),ą8=Ę->ċV=Ę,(λv q=>by have q':ġZ _ _=ĝF:=q;cases q'),∀i h,tn i h->∀b∈fp,∃o,ûl/\ĵc,∃out sI tX mg c1 c2,z=(none,out,sI,tX,mg,c1,c2)/\ĥb,(a,rfl,.inr ((vs,ha),h1 bv H1 _ Ģ bG (EM ha ra))),(by simp at bW⊢;rcases bW with q|q|q|q<;>simp[q]),MethAt P w K mg base "Packing" "exponents_of" 1 _E.bM,MethAt P w K mg base "Packing" "sum_of_terms" 2 ċA,["NoneType","bool","int","str","tuple","list","dict"],k / 2 ^ (w*p),(by let⟨o,h1,h2,n,h3⟩:=p1;exact(o,h1,h2,n,h3)),["_law_k","_law_at","_law_script","_law_shape_here"],∀b o,ķb->b ∉ ĈB->ĠM,∀bi H' v,ún->ĚA->R bi H' u v->Ĕq,∀i h h',tn i h->(∀b∈fp,∀o,ûl->ĂM)->tn i h',(Ł4 λt=>þD).getD,de (hc ak s Y H _ I h) λd s1 ľC=>?_,Z=[qI p, ûD, qL D, qL M, qL Q, qL L, qL Rs, y7],(by rw[<-r1.length];ext aa),iB CX P w K mg base N qual scope f cd A outer s H E,λu aK bv H1 x e1 bG r1 h1=>h1 bv H1 Y Ģ bG ÿT,(λv z=>by rw[d]at z;cases z),(λx y _ _ h1 h2=>by rw[ċF h1]at h2;ext ab),Bp K "Monic" "__init__" "Monic.__init__" ńK,Bp K "Packing" "key_of" "Packing.key_of" ńG,[.tup [Āq,.int k1],.tup [Ľz,.int k2]],(by have:=congrArg ýs em;ext gc;ext n),dP (bx (ao uI Ě2 ĺ_)) ť aT,dP (ck (bx (ax ċB (ag gf (ag bo øG))))) ť aT,fL 1 1 (bb (wg (C? "int" aM) (Om (C? "bool" aM)))),typeLookup Ą_ "__getitem__" = pure (some þR),wH aj wt Wm p d row rows s s' S T W rest mo Rl q v,MethAt P w K mg base "Packing" "terms_of" 2 _E.cK,ý7 [.loc j.m,.loc j.z],(by rw[<-zQ nA e,hA,D! P [] þl];show _=0+_;ext c),wpAny _ _ (isInstance (Ĕo) ąI >>= _) _ _ s,(by rw[Ġn];exact ĲA),de Čv λus s1 ķt=>(I1.nT,?_),λa(q:α×Nat)=>Ļ8 (sa+q.2) q.1,(λs ms=>Āw (below s ms) (this.1 t m),this.2),Paired (λv k=>∃a,úT/\H a=Ĥ') vs Ĕ_,cH (ag (gX "Packing" "key_of" _E.dA bB øp) ùq),gN P w K mg base üb k fa fd ps (IK Ąd F),jP [qL S, ûO, qL q, qL R, x4, y5, y6, y7, qn] s,∀bi H' x,ún->ĂE->Rl W.K bi H' v x->D.rt x H',de ČG λu s1⟨x,H1,I1,rx,a,ex,d,q1⟩=>?_,(ļm λp => !(p.2 == ā0))=true,wpAny_pure (_,rfl,ċ'),λw hw=>uo rx fx r fs w Ĳe,Builtin.Slice.sliceAdjust,Data.fields _=ĝF,FnAt P w K mg base "_law_are_exponents" 2 _E.cz,MethAt P w K mg base "Packing" "key_of" 1 _E.dA,(by have:=h.1;unfold Li at this;rwa [ČV]at this),putN T t.1 (Ē3+t.2),∀j,j<lo->ĂX,ao cw (ao du bX bX) įZ,(ĸ')/\∀p∈ĒX,p.1≠b,FnAt P w K mg base "check_none_nought" 1 ąR,FnAt P w K mg base "multiple_of_terms" 1 _E.cy,FnAt P w K mg base "sums_of_quotients" 3 _E.cm,Ķ2/\0<sJ/\1<sL/\sJ+sL+1<=ċM,[qI p, qL n, qL M, qL Q, qL S, qL j.m, qL j.z],wpAny _ _ (isInstance þb ąI >>= _) _ _ s,bL (ag ĂF (ag ÿ5 ıq)),ĳD ıJ _,FnAt P w K mg base "place_of_divisor" 1 _E.cL,t {nx:=λ_ H'=>Q .cq H',rt:=Q} ď3 H,wpAny û A (richCompare .Gt ś þb) Q E s,λ_ _ _ _ _ st h=>wpAny_pyIter_rangeiter st h,λay=>ēH=đ,(λc bW=>by rw[aO (fpT c bW)];exact Đs.1),(λc o q n bW=>by rw[aO (œ ġG)];exact n),λp=>ý7 ļ0,∀x∈W,ĕK/\jA p aj x.2/\x.2.length<=100000,bZ (ag (ax c7 (ag Ě2 aw)) aw),if v<0 then max (v+úC) 0 else min v úC,(r.drop (Č1)).take Ņc,þW λkv=>if ĔC then%[kv.1|y]else kv,FnAt P w K mg base "is_prime_within" 1 ā2,if ùX then .ok øq (st++[ĉX])else .bad,λak s Y H D I q=>h ak s Y H D I (k D Y H q),λp hp=>absurd (show p∈([]:U')from hp) Ĉ,s1.heap.push {cls:=ĸ "dict_items",data:=ûu #[Ņ]},∀b o,ēe,codeAny ýh callerA ĵC ĤL ap,Ņ9++HJ.toList++cC X (Ăd) (ýK),Ċf=ē/\∀n k,ĢE->n ∉ ds->čf,(.int û7,H,ù2,(Ăb,by rw[Ľ,hlen]),q),.Slice lo hi none p2,(by simp at hs;ext c),de ČG λv s1⟨x,H1,I1,r1,ty,q1⟩=>?_,(ēP (seqObj "tuple" øH 0)).push ĆF,ģy (t':=s1.toks) (λb u e=>þ6) ě ?_,ģG K C bmV "ValueError.__new__" = true,[ż, ċO, x1, x2, Ĥ, Ă, x5, x6, ýz],cH (ag aM (ag (ao cw (ao du bo bB) bX) aw)),gallopOf st,wpAny Ć X.A (call þR (v::us)) ø3 X.xe s,Builtin.«zip.__next__» ([.ref z],[]),ĕV ĤK (by rw[hs,cO]) (by rw[cO];rfl),(λ{a c}q e=>by rw[e,_F.d6]at q;ext M),FnAt P w K mg base "_law_are_sums" 4 _E.fS,FnAt P w K mg base "rest_of_terms" 3 _E.dC,FnAt P w K mg base "whole_inverse" 1 _E.jt,["_law_k","_law_script","_law_shape_here"],[ùC,āP,øc,øc,āP,.int 8,øc,ùC],de h4 λ_ s5⟨x,H5,I5,r5,y5,Sg,fr5⟩=>?_,λc ps q=>(#[],by rw[Ńc,q];simp),(rJ bi ay H' e' ES vY i).1 _ (ħ hi),(backTo bw (ĸP)).any ď,(ĔI)[q.1]?=some (.lst (q.2.map tM)),ø8 "range" p,(ùx+āM*1).toNat,λh' c' kp e=>fin aE r' hz h' c' kp e,.ok øq (st++[.lst (Ņf (Cy p))]),FnAt P w K mg base "_law_cell_at" 1 _E.bc,FnAt P w K mg base "_law_divides" 1 _E.d0,FnAt P w K mg base "_law_product" 1 ąS,FnAt P w K mg base "add_multiple" 1 _E.c6,FnAt P w K mg base "inverse" 4 ĒA,codeAny_builtin PySem.F.entry_max_loop ?_,(e,l,o,rfl,h2,h3,h4,ĸ_),(Ą' h.1,λr m=>x.2 _ _ ńA),FnAt P w K mg base "_law_is_sum" 3 ċB,FnAt P w K mg base "_law_sum_of" 1 ÿ1,FnAt P w K mg base "check_order" 2 ċD,FnAt P w K mg base "check_prime" 3 ċC,FnAt P w K mg base "packing_for" 3 _E.gK,FnAt P w K mg base "signed_unit" 1 ąU,(by let⟨_,b,_,_,_,e,_⟩:=hx;exact(b,e)),(by let⟨_,b,_,_,_,e,_⟩:=hy;exact(b,e)),uI (.int (f[j]:Int)) (.int (e[j]:Int)) s,λi h h' st k=>st.at λo e=>k it Ĉ o e,λt h' tk hk=>(.int _,H,I.kept hk,ę,q),∀p∈ĒX,∃o',āO p.1=ēU,ľS.2 u mu,.ins "Packing" ĵF,de (ha ak s Y H Q I h) λc s1 e=>?_,(m1++m2,by rw[e2,Array.append_assoc]),setFlight ăa none,FnAt P w K mg base "_law_above" 3 _E.d8,FnAt P w K mg base "_law_apart" 1 _E.fT,FnAt P w K mg base "_law_drawn" 2 ąT,FnAt P w K mg base "_law_refused" 10 e_,FnAt P w K mg base "_law_shape" 2 _E.jK,FnAt P w K mg base "_law_total" 2 _E.jL,FnAt P w K mg base "_law_whole" 1 _E.gp,FnAt P w K mg base "check_ring" 3 _E.iQ,FnAt P w K mg base "reduced_by" 7 _E.eV,FnAt P w K mg base "shared" 2 ĒD,ForInStep.yield,List.set_append_right,W.nsIn K mainGlobals "ValueError" = þY,[qI r, x1, qL d, x3, qL q, some ąd],[øc,āP,øc,ùy,ùy,.int 8,ùy,ùC],ax KA (ag (ao jc aM (ao gb Ć2 cG)) aw),ns≠[]/\Q (.int (ąW Ăs (ų-1))) H,some (Cz (ăw) Ğk Ğl),∀name,ĺh=some (ģV),∀o i,I o i->wpS M A E s (m2 o i) Q st,ax _E.gJ øp,compareOp op,tryCatch (pyNext (.ref I)) _ >>= _,Ű (ús o "get" apos) [e,f] [] bw,Ű (ø8 "enumerate" p) [a] [] pos,FnAt P w K mg base "_law_four" 2 _E.pA,FnAt P w K mg base "_law_good" 5 _E.fE,FnAt P w K mg base "_law_high" 2 Ăf,FnAt P w K mg base "_law_rank" 1 ā3,FnAt P w K mg base "_law_term" 1 _E.jJ,FnAt P w K mg base "_law_wide" 1 _E.lU,FnAt P w K mg base "lower_top" 2 _E.fU,ĒV->∃u,øn/\Look Ā ù m x u,["_law_order","_law_one","_law_other"],if ċI>ĊR then f Ķ else ĊR,ā9=some (.lst (ľJ)),(show ĒC+1-ĒC=1 by ext c),āN->bindArgs Ħi ÿV=Ċh,∀b o,ćg->b ∉ ýI->ĒB->ČN,∃a vs,v=Ņ/\ľK/\ū,∃xs,Ğ7/\h.DictOfH (čb) a xs,G.gi.oR.ok t (ĻV mt),ąW (λi=>(ą2).getD i 0) ų,(by rw[e];exact my),upd H a (.lst oV),Ű (ús o "items" apos) [] [] bw,FnAt P w K mg base "is_order" 1 _E.gJ,FnAt P w K mg base "is_whole" 1 ąV,[.tup [.tup (ĢF),.int k3]],aO (hm b _ q λz=>z),dI k (þX (envOfC qual û3 ü f d5)),if ĒE then h c bn ay else .bad,jc (ùY) (.str "deg") s=.ok (.bl d) s,(show(gS false == "deg")=false from Fq),wpAny_bind (wpAny_field Q4 di rfl ?_),λt=>decide (t.1=e'),∀bi H' cx,ún->ĂE->ČT->D.bk cx H',∀bi H' cx,ún->ĂE->ČT->D.ct cx H',∀bi H' cx,ún->ĂE->ČT->D.nx cx H',ēt [ŃU] value pos,ēt [Ń2] value pos,c2 b o q (I.Od Ēx hb) hx,Ű (ús o "pop" apos) [e] [] bw,Ű (ø8 "zip" p) ēF [] pos,λx y H Q=>Ġ7\/r' x y H Q,∀r∈rows,ùW/\łm,FnAt P w K mg base "is_ring" 2 ÿZ,FnAt P w K mg base "reduced" 8 _E.bC,GI aj wt Wm p b ÿ K1 row mo [] R q,Heap.MadeExcOf,[øc,ùC,ùC,ùC,øc,øc,ùC,āP],aY g as t e (ċT) Z s ys=Ġk,gO bB ü7 (ao cA Ĺy ăn),wpS_pure (h n X n1 n2 (ĂN) (ú5) u),ŏ (I.ud b z),λkv=>if ĔC then%[kv.1|u]else kv,λkv=>if ĔC then%[kv.1|v]else kv,∀t∈ts,(∀e∈t.1,e<ŋ)/\úp<=8,(List.filter_sublist.map _).nodup,W.frame _ _ _ ay λb hb o e=>?_,ag bo (ag A3 aw),de Ăp λc s1 ľC=>?_,(o,e,λv q=>by rw[d]at q;ext M),ēY some++ŝ (ĀH-ĉ) none,Ű ĵ9 ŵ [] bw,λc o bW q=>ĵ7 q,.bl (decide (j<=i)),FnAt P w K mg base "_law_told" 9 bJ,PE X ĖC (tE X E (gX c mt F mo ms)),aN 2 (bL (ag (cH (ag v5 ø6)) Ňb)),absurd (show Ņ8 from z) Ĉ,ao cA (ao aQ ýe aM) (ao aQ ćj aM),gg W[j].2 rows[j].2,(show(gS true == "deg")=true from Fp),wpAny M A (storeName Ā x u) Q E s,wpAny_newObj_type ?_ Ĺr,λr m=>ā' _ _ trivial (h.r_ r m),aN 2 (ao aQ aM (ao cw bo čU)),bZ (ag (ax c7 ľ4) aw),(by have:=bu (I2.r_ r m);ext c),(rJ bi ay H' e' ES vY ĉ).2 ě,wpAny_bind (wpAny_letGo (Ăj)),PySem.F.slot_dict_keyiterator_next,["_law_k","_law_one","_law_other"],(by cases r<;>first|exact h _ _|rfl),dI k (þX (envOfC q û3 ü f d5)),dI k (þX (envOfC x û3 ü f d5)),df K "_law_are_exponents" (top 45),inferInstanceAs (Decidable (_\/_)),max ((Ņj).toNat+1) (pM ýC),pj P w K mg base "Packing" 1 _E.dz,s[H]?=some (.lst [.loc L0,ĊA]),wpAny Ć X.A (eval ĀL Ā) Q E s,wpS û A E s (mergeAt' i) Q Ċ8,wpS_pure (rfl,σ,pd,g,rfl,pY,bY,R),∀b,H b≠none->ľM,∃v r,vs=v::r/\úv/\aZ K O H us r,("__debug__":Str),((k*ĕ:Nat):Int),.jl ob ĒF,PySem.F.args_dict_get_3 _ _ _,leaving env ăa,Ű (ús o m apos) ŵ [] pos,λ_ s'=>∃cx H',þw/\Q cx H',Heap.HeldW base ĂD e cls a0 L h',K r σ Ĕg,SeqAt.EqAt.int_int,W.instObj,["key","number","factor","prime"],["self","order","many","highest"],[øc,ùy,øc,ùC,øc,ùy,ùC,ùy],aA.filter λkv=>decide (kv.1≠k),bx (ax _E.d0 (ag bo (ag þH aw))),df K "check_none_nought" (top 31),df K "multiple_of_terms" (top 34),df K "sums_of_quotients" (top 33),Ļ->Ļ->StateT SortSt Sem (Ļ),∀G,Cq p (ln G (č6)) (ln G row),∀u∈us,ĠZ/\wt ąD<=Wm,(((a::ns).map Ė).length:Int),((ĖM).extBut.push _).push _,(RG b ÿ p t bk ts).map ćY,ĶD++[.loc øN],.compStart Ăl 0 ùV acc Ħb,ax c7 (ag (ao aQ ćj bp) aw),ŀl\/ŀn,p.2 == ā0 || p.2 == .free,.ok øq (st++[.lst (EI úL us)]),Array.getElem?_extract_of_lt ø,B.map λu=>%[bN o.1 u.1|o.2*u.2],PH X ĕp (OK X (Uc sub x i s r)),ĽK=ĸO,(by unfold Rl;exact(a,vs,rfl,h,r)),decide_eq_false (λq=>nomatch q),df K "place_of_divisor" (top 37),if ùX then .ok ĀK st else .bad,if Ă' then .er x Z st else .bad,ln F (B.map λu=>%[f u.1|c*u.2]),min (ĵ-lo) (ĸK),pj P w K mg base "Monic" 5 _E.dB,λ_ s'=>∃h',Ē'/\ĦJ/\ÿ_,λus aK bv H1 xs e1 bG r1 h1=>?_,.inr (o,aE,n,l,hc,hd,hz,hv),.int Ņj,.lst (us++[v]),Array.mem_toList_iff.mpr hx,PySem.F.args_tuple_gt_2 _ _,Ĺj+Ĺp,gE p d aj (d9 aj) (ā6) 0,ź L (.dK ((čY).map øh)),.inl (_,_,rfl,m2.done ğR),.inl (_,_,rfl,m2.first ua q h0),Nat.testBit_two_pow_sub_succ hr,Ng X ÿ6 (tEE X (ax f (Ua ms))),PyProof.Rows.slot_tuple_getitem,["_law_order","_law_exponents"],["_law_term_here","_law_first"],["key","number","prime","self"],[qL a, qL r, qL F, þN, y4, y5],[qL a, qL r, qL F, þN, z4, z5],aN 2 (ao orV Ĺo bX),attributeBase o m Ā āW=ü_,bx (ao gC aM (dZ ýr "top" bX)),(by have:=G.lS;have:=x0.1;ext c),(by have:=G.lT;have:=x0.1;ext c),df K "is_prime_within" (top 16),findIn K Ĝ "__getattribute__",ln (mF F x) (q i)+ĿS,some (ŅW ú7 (.ref y)),{s with heap:=ø0 ĕD,toks:=tk},λb o q n hb _=>slot b o q n hb,λbP=>ģJ=đ,λpr aK bv H1 J e1 bG rJ h1=>?_,(Obj.cls_mapFields ..).trans,b9 1 [] Ą9 ĩ aU ć6,(by have:=(h e me).1;ext c),(by rw[<-p.length];exact hz),Int.mul_le_mul_of_nonneg_right,Turn Đ X.w X.K tg J fp it tn,["_law_one","_law_shape_here"],["place","field","key","self"],[2,3,5,7,11,13,17,19,23,29,31],[x0, qL p, qL øu, qn, qn, qn],[x0, qL p, qL øu, y3, qn, qn],aW X ĿB (cM ā E C!),absurd oQ (by rw[q];exact Ćc),backTo bw (starEach [e,f] Ā),(by rw[rR,beq_self_eq_true];rfl),(by ext A;rw[r]at mu;exact mu),pure (ĸ "method_descriptor"),wpS_pure (rfl,x,rfl,ø,ø,u),λu aK bv H1 x e1 bG r1 h1=>?_,λz l h=>b.dk z l (a.dk z l h),⟨hz,yQ,ńf,h1,h2⟩,%[sa|%[ċM|p]],((j+1:Nat):Int),ēt [ø8 y py] Ăl JM,.dK ((gz T' t.1).map øh),(G.F.rl r mr).2,Nat.le_of_succ_le_succ hl,āQ ÿ (ŝ cU ĕe),bx (ao uI ľ8 bp),if g=f then Ę else mA g,jI "by_degree" (.bl d) [],ÿX F (.lst ńU),tE X E mk,øk (lexLt (m::f) (n::e)),∀i,(c' i).length<=20001,Array.perm_iff_toList_perm.mp,F.slot_dict_itemiterator_iter,H b=some (.tup (e.map āY)),Int.mul_le_mul_of_nonneg_left,IsZip h' z TI TO (rawInt ü),PE X ÿ6 (tE X E (Bn x F ms)),ğa K C Str.empty=true,["exponents","number","self"],bH (fM bD (ao aQ Č5 tJ) ø6),(by ext bO;rw[ü0,aL,pe e,ČU]),(by rw[B?];ext O),(by rw[ni];ext O),(by rw[qG];ext O),(by rw[č,sizeLine_eq];ext c),df K "_law_are_sums" (top 47),df K "rest_of_terms" (top 35),df K "whole_inverse" (top 23),i? 15 s (.loc a.1) (.loc b.1),s.heap.IsSliceOf sl vl vu ė,(show ¬ (ùx<0)from by ext c),starEach [e] Ā,{D with nx:=N,ct:=N,bk:=D.nx},Čl=ùZ\/Ĥp,λj=>xs.getD j 0==ys.getD j 0,λr s'=>r=w/\EP X ak Y Q r s',λz=>(M! c z).2.2.1 x c e rfl,∀v∈vs,∃k,Kd p m ù v k,∀x c,úm->∃o,āO c=Ă,("bool":String) == "int",F.args_list_append_2 _ _,(by rw[hj];simpa using ew),letOwnedTupleGo tg ùV u,seqItems? (.ref S) >>= _,Ċ ę (Ċ ę (.nil)),Array.getElem?_eq_getElem hi,FnAt P w K mg base x øe čn,K r b Ĥy<=K r a ġH,łY mA (ğn),RS W O H (Z.set i āU) Ė3,["_law_k","_law_shape_here"],[qL n, Ĥ, qI (k0:Int), qn],[x0, qL R, qL F, qL r.1, x4],(by rw[I.len];exact łs),(by rw[hod]at vX;exact ùQ vX),df K "_law_cell_at" (top 40),df K "_law_divides" (top 50),df K "_law_product" (top 43),df K "_law_refused" (top 55),df K "add_multiple" (top 38),j9 (i? 15 s) (rL as) (rL bs),s[r]?=some (.lst Łn),{s with heap:=h₁,toks:=tk},Ā2<=i/\i<Āo/\Ā2<=j/\ċJ,λi h h' st k=>k it Ĉ _ st,λx H'=>∃k,x=ċk/\Q k H',∀cx,RS W O H bn cx->Q cx H,(G.gi.oq i).ok,(by have:n<=i:=hg;ext c),(by rw[in1_units];ext c),(q j++[%[e|t.2]]).map øh,wpAny_pyIter_list hl ?_,(zH2 b1 b2 ù l1 l2).úz,(zH3 b1 b2 ù l1 l2).úz,ŝ aj ĕe,λb o hb e=>eb b o hb e,λd v hd q=>kp d v ?_ q,λd v hd z=>kp d v ?_ z,λf vs=>PySem.call f vs,λv H2=>v=.cq/\Q ûw H2,.int (i.fdiv j),.int (Ĕx j),1*2 ^ (ģ_),Paired ļ' mo rows,[ċP, qL H, qI 0, ĊW],(by rw[Ńb];exact e),(by rw[hC];exact œ (Ćf _)),(by ext cp;rw[ĭ,hw];rfl),c=z\/c=TI\/c=TO\/c=i1\/c=i2,df K "_law_is_sum" (top 46),df K "_law_sum_of" (top 42),df K "check_order" (top 27),df K "check_prime" (top 19),df K "packing_for" (top 11),df K "signed_unit" (top 20),k==T || (ĂS && T == "int"),(show nV []=([]:ý)from rfl),specialIn K ąB "__get__",wpAny_pure (ľd),{s with heap:=Ĥ8,toks:=tk},þn base outer e cls ÿd h',λY3 pd3 g3 y1 y2 y3 y4=>?_,λbP=>bP[d]?=some ńi,λbP=>bP[d]?=ľa,(λz=>by have:=lz _ z;ext c),∀b o,Ŵ->ĠW b=Ă,∀y∈ĢL,y.2≠.free,%["_law_shape_here"|ċX],(kr (ġ_)).map eD,ao cA (ao aQ bo v5) cG,ck (bx (C? "list" aM)),hm b o Ļe e,(Ġ4).fmod (üA+1),(z.1,ht _ _ z.2.1,z.2.2),(üZ _ _ (øv h1)).trans,.int ((ġc:Nat):Int),Array.toList_setIfInBounds,Builtin.Slice.sliceApplied,Calls.Name_function_global,F.slot_tuple_iterator_next,Int.add_mul_emod_self_left,Int.fdiv_eq_ediv_of_nonneg,Int.fmod_eq_emod_of_nonneg,Int.lt_of_le_of_lt Ĭ Ĭ,Int.lt_of_lt_of_le Ĭ Ĭ,PS X Ħ3 (tS X E (aN i m)),["prime","terms","factor"],[Ō, ġ, ċO, ýz, qn],autoParam (vW X bw es) Č,(by rw[Td c bW]at q;ext M),df K "_law_above" (top 56),df K "_law_apart" (top 60),df K "_law_drawn" (top 53),df K "_law_shape" (top 51),df K "_law_total" (top 44),df K "_law_whole" (top 41),df K "check_ring" (top 18),df K "reduced_by" (top 32),findIn K Ĝ "__getattr__",hx.choose_spec.choose_spec,kg hg I p f us pi _ h2 hs',(show i+1+j=i+Ķ by ext c),(show j-i=j-Ē+1 by ext c),(show lo+ģc=i by ext c),some (seqObj "list" ăP c),þn base outer e cls a0 h',Ć' K Ĝ "__init__" = ČA,λi=>1*2 ^ (ÿ*Ē+ÿ-1),.ins C dx (jW f y fs),(Array.push _ _).toList,(X.toList.map r).length,(by have:=ċp;ext c),(by rw[<-ČR];exact hP),(by rw[Ľ]<;>(ext aw)),(by rw[č,ă];ext c),hb ak s1 Y H1 _ I1 q1,he ak s1 Y H1 _ I1 q1,(if a then 1 else 0)==b,(show Ć9 a ĺ from p),∀v,%[x|v] ∉ binds,.ok (.bl (! ń_)) st,.ok ĆJ (øQ++[.lst Ćd]),ApS L ρ HL H cs ds c' s',Classical.byContradiction,List.append_eq_nil_iff.mp,List.length_eq_one_iff.mp,List.length_filter_le _ _,List.pairwise_iff_getElem,List.pairwise_reverse.mpr,Q (.int ÿf üu) þj->ĥC,["one","packing","prime"],[.int g0,.int u0,.int v0],[.int g1,.int u1,.int v1],df K "_law_four" (top 58),df K "_law_good" (top 57),df K "_law_high" (top 49),df K "_law_rank" (top 48),df K "_law_term" (top 52),df K "_law_told" (top 54),df K "_law_wide" (top 59),df K "lower_top" (top 36),dvd (f.drop j) (e.drop j),es.toList.any (·.refKey),forL gd ød koB û8 bn ay,rs.toArray.zip rs.toArray,ŃK ü=some če,tZ (s:=s) (d:=d) (e:=u.1),tk.to λb o e _=>ĢB,ăv (x.above y c (ćh h)),∀C fp s H,C2 ú1 ifs tt,∀C fp s H,PE ú1 elt te,∀q∈kq,∃vs,ā9=ćw,∀r∈rows,ùW/\Ğv,∀z∈ĠQ,z.2<=z.1,.Return ğ' pos,(.int ÿf,H,ù2,ę,q),Y.set i Ł2,(aA.find? Ćh).map ŗ,(by have:=G.hv;ext c),(by rw[<-ecl];exact e),(by simp at hj;ext c),(by simp[sizeLine_eq]),mC (.int 2147483629),(none,out,sI,tX,c1,c2),(none,sJ,sL,out,c1,c2),(oW hz.1 hz.1 r1 r1).1,(show p≠0 by ext c),(vs,(üp y29).2 _ _ h),ċ7 x=ýf\/ċ7 x=þJ,ĂV x=ýf\/ĂV x=þJ,.tup [ġS,.loc p.1],Array.size_setIfInBounds,List.Perm.eq_of_pairwise,List.eq_of_mem_replicate,M2 X o "get" apos e f bw,PI X tg iter Ŀl,PyProof.noPylong_of_log2,["self","prime","terms"],āQ ÿ (ŝ m ĕe),atKey xs k,(by rw[l3,Ď,Ăw];ext c),(by rw[p.dN];exact Ċo),(by unfold aZ at h;ext j),decide_eq_decide.mpr ø,df K "is_order" (top 26),df K "is_whole" (top 15),findIn K Ĝ "__class__",forL g A body ċi Z st,gy p (c5 Ċ7 (ĊQ)),i? 15 s2 āR (.loc HL),rE k aX wi g tt te Y H Q,s[ρ]?=some (.lst ąQ),slot_list_getitem.lookup,uz X N scope cl C fp s H,þn B øt ea cls ÿd ù,λb o e=>(e0.bs b o e).1,λi H=>∃xs,ăf/\į<=i,λi=>1*2 ^ (ÿ*i+ÿ-1),λv hv=>Ėx.1 (Ėz hv).1,λv s1 ÿ7=>(Y,H1,I1,q1),∀[7](c:aH),ndC c->ÿ9,∀i,nq aj wt Wm p (q i),((f' n n hi:Nat):Int),67+64*j,F.args_zip_next_1 _,ag (ao aQ bB gf) aw,(eO _).mem_iff.mpr ?_,intBits_le_64 h1 h2,ms.map ŗ,(ŃH).lookup,seqObj "list" øH 0,(λ_=>by rw[hν];rfl),λu mu=>(mP u mu).1,.ok øq (st++[ēu]),ApS L ρ HL H cs ds c s,Builtin.Dict.updateFrom,Builtin.Range.rangeSize,CE outer P w H s Q u s',Int.eq_ofNat_of_zero_le,Int.natAbs_eq_zero.mp e,List.filter_eq_self.mpr,List.length_pos_iff.mpr,List.pairwise_mergeSort,MZ p aj q R row rows s',Ni.trans (x11.trans IP),P bn ay/\M bn ay<ĊE,PySem.F.slot_dict_items,["key","number","self"],[.str "lex",.str "deg"],ao Hz (ao OU bB ĦM) bo,autoParam (ē4) Č,(by simp[valueAt,ĆL,e']),(by unfold sgn vg;ext bo),df K "inverse" (top 22),df K "is_ring" (top 17),df K "reduced" (top 30),forL g as B (ċT) Z s,if øR then[úf] else[],lexLt (e++[c]) (f++[d]),some {o with slots:=sl},uB J k aX g tt te Y H Q,z.sameBut hs (M_ y c e),Ćf _,û0/\∀n k,n≠Fc->čf,Āu it ù h',λb z=>absurd z (noA b),λi H=>∃xs x,ăf/\ûk,λi=>(bs[i]?).getD true,λr s4⟨u,hr,h4⟩=>?_,λz=>z.push v,∀C fp s H,PG ú1 tg g,⟨adW,dd2,data2,sl2⟩,.ins "Packing" ĤF,.ins c Ŀd,XP X ak (atS Y EX),ag ÿ5 ľ5,(bS P w).is k u=true,binaryOp .FloorDiv,(by rw[hl];exact he),(by rw[Ăz];exact e),(by simpa using eux),keywordEach [] Ā,out++ÿb ia Ĕf,rE k aX wi g tt te,(ăw).toNat<g1.toNat,ń9 Ło,∀r∈bO,r∈rows,Array.getElem?_eq_none,List.mem_filterMap.mpr,List.range_succ_eq_map,M1 X o "pop" apos e bw,Nat.pos_of_ne_zero Ĭ,PySem.F.entry_dict_get,PySem.F.entry_tuple_gt,PySem.F.plain_max_loop,PySem.F.slot_dict_iter,["exponents","number"],["high","low","often"],[%[ėx "reverse"|ćx]],aY _ _ _ _ [] _ s ys=_,aY g a c e us pi aK ys,(by simpa[j!,e]using h1),(by simpa[jm,e]using h2),df K "shared" (top 21),es.toList.map (·.key),forL g a body us bn ay,holding [v] (truthy v),if øR then úf else 0,kat_one _ _ (lt_int h),mo.map λx=>%[x.m|Ďg],ts++B.map λu=>prT u t,u! ((ē').map ď),ā' _ _ trivial h.q_,ćn b o q n hb ēn,λv h' tk hP ay hm=>?_,λw hw=>h w (š _ hw),∀b∈fp,ŃF,∃t,u=Value.bytes b t,∃t,u=ŅS b t,(#[],by rw[e];simp),ąe a op b pos,F.wl w ŁO,bx (ao gC Č5 bX),(by rw[l];exact h0),(by rw[z];exact hb),(by simpa using h2),(by simpa using hv),(by simpa using hw),(ĠO).reverse,(ĠP).reverse,dZ ûT "width" bX,dZ ûT "width" bo,(e,lo,rfl,h2,h4,h5),h ak s Y H Q I hw,h ak s Y H _ I hw,hv ak s Y H _ I h,(ĠY).map ď,(m',hm,wn,H3,I3,w3),noteFrame ăa env,(row.take 2).map tM,up.le ø ø ø,(us++ds).length=þo,(zH1 b1 ù l1).úz,(ĀX).length<=80000,ćS (ċY) j pos,λa b c h1 h2=>?_,Builtin.Dict.showsAll,H _ _ (mj,nj,ø,ø),Heap.ExtBut it ù h',I.mod.glob.keeps I.bk,Int.emod_add_mul_ediv,Int.mul_emod_left _ _,List.take_append_drop,Nat.le_of_lt_succ Ĭ,Nat.lt_succ_of_le Ĭ,PySem.F.slot_dict_len,PySem.F.slot_dict_pop,PySem.F.slot_tuple_le,PySem.F.slot_tuple_lt,[.lst (ĕu)],_F.Kd p (m-1) ù u k,as.map ŗ=bs.map ŗ,(by rw[<-üe];exact hi),(by rw[h.dN];exact ùH),(by rw[sgn_mul];ext c),(by rw[Ď,Ăw];ext c),(by rw[Ľ,Ľ];ext c),(by simp[atKey,ĆL,e']),c_ (jN (iV rfl h.px)),decide (p.1≠k)=true,decide (q.1≠k)=true,dig ÿ ġu ||| G,dm b1 h' i1 l1 (k1+1),dm b2 h' i2 l2 (k2+1),ds.Pairwise ńY,h! tab c "ValueError",if n<0 then -n else n,rows[j]?=ýz,ą5=some (.lst ćm),(show j=lo+n by ext c),uA X N scope cl' k aX,Ň (lZ b x) (lZ b z),ú2 (øv (œ I.big)),λj y v' e1 e2 e3=>?_,λr s4⟨hr,I4⟩=>?_,λu=>decide (ģ7),λz=>(M! _ z).2.1 rfl,∀i,dW 12 (c i)=true,⟨old,he⟩,%[false|eval eb Ā],%[false|eval re Ā],.IfExp c a b pos,.Return none pos,.ins "Packing" _,1*x3+0,ag fI ŁF,binaryOp .BitAnd,binaryOp .LShift,binaryOp .RShift,(by rw[ni];ext B),(by rw[wI];ext B),(by rw[øY,øY,l]),(by simpa using z),b∈X.ex\/ăl<=b,(ol,hk _ _ hol,Rw),(ŝ k aE).flatten,(ŝ k us).flatten,(ŝ k xs).flatten,ĂT .And [a] pos,λ_ _ _ _=>False,λb u q=>Ĕa,λx mx=>hr x ėy,λx mx=>hw x ėy,∀e∈es,e<=top,.dK (þx (cb d ÿ)),.tup [.int x,.int y],Around.under_plainId,Ed m1 hm (I.Iy r mr),Heap.get?_none_of_le,Int.le_trans Ĭ Ĭ,List.dropLast_concat,List.getElem_zipWith,List.getLast?_concat,List.range_eq_range',List.reverse_reverse,Nat.le_of_not_le Ĭ,Nat.lt_of_not_le Ĭ,Oc c o ho (c4 x c e),Sd s M Q mo zs b ÿ,SeqAt.EqAt.bool_bool,SeqAt.EqAt.bool_none,SeqAt.EqAt.none_bool,X.env.frame=some øD,aG (X.ug E) ak Y H s,(by have:=r.dp;ext c),(by have:=r.un;ext c),(by rw[l2,ĳ];ext c),d.params.defaults=[],decide (ņf),getElem?_pos X _ ø,gn X scope cl' caps',h1 bv H1 _ Ģ bG ?_,p.1.length<=sizeLine,sc.isCoroutine=false,sc.isGenerator=false,us.any (ņ7),wD p T ąD ġz,ģ (rB xs lo hi) hz,úc/\wt t.1<=Wm/\ăi,λi x v e1 e2 e3=>?_,λi=>1*2 ^ (w*i+w-1),λn c _ e=>x.2 n c e,∀i,i≠j->c' i=c i,⟨cls,dd,data,sl⟩,⟨vs,H1,I1,r1,q1⟩,%[false|eval c Ā],((1*ĕ:Nat):Int),.Pass (0,0,0,0),.bl (bs.all id),.ret ė,Itz K b1 b2 a b,List.toArray aE,(O,st,_,sr,r',h'),(ēD ĕ').map,(Z[j]?).getD none,([Ņ,Ĕo],[]),ĊI ho h1 h2,(aE++[v]).toArray,binaryOp .BitOr,mC (.int 48271),(sb.2 b hb).trans,st++Ņ1,ĂT .Or [a] pos,λ_ st=>ģ2,λz m=>h1 z ŕ,∀w∈W',w∈W,.err "ByNought" øQ,.ok (.bl (i==j)) st,.ok (.int (i+j)) st,.ok (.int (i-j)) st,F.entry_list_append,List.any_eq_true.mp,List.filterMap_cons,List.mergeSort_perm,List.zipWith_append,Manifest.signature?,PySem.evalArgs_none,SeqAt.EqAt.bool_int,SeqAt.EqAt.bool_str,SeqAt.EqAt.int_bool,SeqAt.EqAt.int_none,SeqAt.EqAt.none_int,SeqAt.EqAt.none_str,SeqAt.EqAt.str_bool,SeqAt.EqAt.str_none,St->Hp->(ùa)->Prop,Value->Shared->Prop,W.clsIn K D,X.cr.heap.FunFrames,["_law_shape_here"],[.loc ýG,.loc ÿc],(by rw[eL];exact hDC),(by rw[lE hz];ext c),decide (ýj ≠ùm),getElem?_pos xs i h,ln (λg=>F (f g)) B,nq aj wt Wm p (čY),wpS M A E s m1 Q st,wpS M A E s m2 Q st,zH5 b1 b2 ù l1 l2,ĸ "BaseException",ĸ "StopIteration",ûu #[ûA,ġO],λa ma b mb y=>m ?_,λb z=>absurd z Ĉ,λt' h2 tk2 hm2=>?_,λx=>decide (x≠N),∀v,úK ≠ā0 v,⟨y,H2,I2,r2,q2⟩,mirror X lo ă2 ((lo+n-lo) / 2),[ûD, x1, x2, ĉV, qI ùx, qL m],wpAny û A (pyNext ĈD) Q E s,autoParam (vW X pos es) Č,ĈQ a [.NotEq] [b] pos,[ûD, x1, x2, ĉV, y4, y5],kM ĤN ÿn (tS ĤN E body),kM ĤO ÿn (tS ĤO E body),wR W E Ā' O H Q (f us st),∀u∈l,Ň Ď1 ćX=false,∀z l,ĎM->gu s' z=Ċ5,(by show Ş<=_;ext aa),üG į į hi,λc o e n _ bW=>(ĝY,ėW),λc o q n _ bW=>(ĝY,ėX),ao jc (ax c7 ùq) bp,sO p e (-t.2) x.tl Ĕ8,ø9->Q øA (upd H p ăg),∀s':ai,Ċ4=ň->Ĉg,∀x:Str,ė3 -> mb x=þh,üy ġl _ _ r1,ĈQ a [.Eq] [b] pos,autoParam (Ĕk) Č,j9 (i? (n+2) s) ćm ĎX,ąN ĆZ (ùd,[]),(by rw[l];exact Ĉw),(i,j,ùK,ùL,hz,ùc),jI "width" Ă1 ĤF,(show ė0 by ext c),(čZ,H,ÿx hk,ę,q),Ű ĨZ [a] [] pos,Ű ĨZ ĉD [] pos,∀i,i<l->īn<=ėP,decide (Ģ3)=true,h O H _ Ģ sr (Ąo _),λay=>ar ay p=ĢQ,(ėU e3).trans e4,((ĘX:Nat):Int)-ćB,bx (ao gC ĘT bB),ub.le ûH ø ø,absurd (ė2) (z p hp),ax Ăf (ag ĘS øp),(by have:=ĩl.2;ext c),(by show 1<=ďo;ext c),dig w (Ď6 ěM ds fs),wpAny û A ĎY Q E s,(by ext w;ext m),ź n (ġV),(ăY,λb q=>?_,hd),ŉ (üM p hp).1,cellsFrom úg ĚI [],fW hR rfl rfl ŀ e2,%["_law_other"|üH],(by rw[q];ext o),hU [ýU,(az 6)],(sb.2 c bW).trans,tG ĄS E0 Ąe e,ús o name apos,(ÿG).kh (KH f x),.ok .cq (üF n ī0),I1.CF hle (ėN hle),(by rw[hC];exact ĎJ),decide_eq_false ĨD,gy p (c5 Ċ7 āx),i? 16 s Ď0 Đe=Ğ,upd H a (.dK (ėY)),upd H a (.dT (ėY)),wpAny M A ĩp Q E s,wpAny M A īj Q E s,ĎN/\ėF/\ba xs ýE,ü2 úg,Īv ù h' e cls vs,Ł _ (ęb),λ(m:Nat)=>xs[Ĩ0]?,λc o e bW=>(o,ėW),λc o e n _ bW=>ėW,λc o q bW=>(o,ėX),λc o q n _ bW=>ėX,%[c|%[x|b]]::r,.int (Ŭ:Int),I7.pin ĉP ĥW,IsRange.new ..,(R++[t]).map øh,compareOp .GtE,(eO _).length_eq,fj üz ød koB,hU [az 5,az 6],hr q (š _ h),(ċK).drop at_,(ċK).take at_,lo+(hi-lo) / 2,(putN T e v).map,rawInt (ùx+1),(sA++üg).length,some (.loc r1),(vs++ws).toArray,wpAny_pure ħY,(úU,H,I,rfl,?_),(þl,λt m=>ČC),ĕV ĤK hs rfl,ĂT op [a] pos,.int (i / 2 ^ ă1),.ok (.bl (ďa)) st,.ok (.bl ċe) st,.ok (.bl (ýn)) st,.seq (Ĥ1).toArray,Array.size_extract,F.slot_list_append,H b=some (.lst zs),Int.natAbs_natCast,List.getElem?_drop,List.length_range',List.mem_range.mpr,List.mem_singleton,Mh r a b out sJ sL,Mm r a b out sI tX,Nat.zero_lt_succ _,PE X ÿ6 (tCB r t),RS ā bi H' bn cx,RS ā dl H2 ul ut,SeqAt.EqAt.of_refs,SeqAt.EqAt.str_str,["prime","number"],aE.toArray.isEmpty,(by simpa using ý_),cr.heap.get? b=Ă,i? (n+2) s Ď0 Đe,isTrue e Ā whole,kn.contains c=true,kq.take at_++[øN],out.toList.reverse,Ăg=some (.fd l),(show j=0 by ext c),some (Cz g1 u1 v1),tG W E R1 m Y H Q',vs.toArray.zip øH,xs.any λy=>Nb y x,{s with heap:=ĥO},{s1 with heap:=h'},øB (j.rs.map þI),ú2 (øv (œ hb)),λ_ _ _ h=>e _ _ h,λh' N2 hs=>h _ ?_,⟨vs,H1,I1,r,q⟩,%["_law_one"|ø_],(q j).map øh,((ħm:Nat):Int),((ćT:Nat):Int),((úf:Nat):Int),((ĚF:Nat):Int),.dK ńQ,.int (ĔM),.lst (xs++zs),.tup [kV k,x],G.told.2 x mx,(I.bE b u q).oI,(I.bE c o e).oI,J.pin ĉP ĥW,([],H,I,.nil,h),([]:Vc).toArray,binaryOp .Mod,binaryOp .Sub,compareOp .Lt,dG T e'+n*u.2,l ø i i1 i2,(mk,nx,ø,ø),o40.fmod 3==1,ģY W' mt,pre_splitW NX,q::qs,tE X E (mC c),vE hp G e1 e2,ýF WData.int,ćS üN j pos,ćS ė j pos,ćS ļ j pos,üy e3 _ _ r2,(ėH).names.all,(Ąt).length<=i,(úU,H,I,rfl,q),ŝ ú_ ĕe,š _ (þm m),(Ār,hl.push _),ĆT e ĨC pos,λm h=>D_ ø,.ins "Packing" [],.int (t.2*bk % p),.ok (.bl (!k)) st,IsPair h' ü x y,List.Pairwise.map,Nat.min_eq_left h,Nat.or_lt_two_pow,Pk s n b cU ÿ g,PySem.frameOf env,PySem.list_append,Qx b aj ÿ p s j,SeqAt.RcAt.tuples,["ring","number"],[2,1,2,3,2,1,3,1],aG XB [] τ H' s',bH m Z s=.nx Z s1,bb m Z s=.rt v s1,bx (ao gC ü7 bp),(by rw[hs9];ext O),(by rw[Īb];ext m),(by rw[þv];ext c),(by rw[ĭ,hr];rfl),(by rw[ĀN];ext c),(by rw[Ŕ];ext K),(by simp[jm,ĆL,e]),(by simpa using hp),(by simpa using hs),(by simpa using rv),cr.heap.objs.size,decide (ĐO<=Ĉ5),decide_eq_false e,decide_eq_false q,decide_eq_false z,fk t body n bn ay,fs.map (aC b ÿ),h O H _ Ģ sr r1,h O H z Ģ sr h2,ic ăo []=øK ûR,if_neg λz=>e øP,minRun' ĵ ĵ 0,pD (by rw[Ĉh,e]),s.heap.IsListIter,some (.lst (đD)),some (ĸ "type"),starEach rest Ā,uY.le ø ø ø,um z.cps.toList i,wpAny M A t Q E s,zH2 b1 b2 h l1 l2,zH3 b1 b2 h l1 l2,{s with heap:=JS},Ň (iE a) (iE c),Ň ćX Ď1=false,đB K Ĝ û9=ġ,ýg (ĕt-øF) ýa,ĉ*úL<=sizeLine,œ (ľ ýH hCs),œ (ľ ýH ď9),į+ďe<=sizeLine,ĖN (l:=rows) ø,λ_ H1=>D.nx Y H1,λay=>ar ay T=đ,λc H1=>Q (!c) H1,λh' tk t' hk=>?_,λm=>z (pL.mpr m),λz=>absurd z ø,∀x c,úm->c≠b,∃q,ùn a=some q,%["_law_at"|üH],%["field"|ċX],%["packing"|üH],.List es pos,.tup [ĝ,x],(I.RC F).trans,Nk.fmod 6==1,([],.nil,.nil),(a.natAbs:Int),(aj:Int).toNat,ao gb Ďp cG,ao gb ýe cG,ao orV bo aM,ao zi bB Ėq,(b.natAbs:Int),(bS prog w).is,(by size_fits),(d? r).map ďE,(ą0).length,eJ.yO k r p',execs st Ā,(f1 w1 s1).ĀY,hU [ý0,ýU],j? bB ü7 bp,k1 _ _ rF hr,(ċK).length,mC (.int 97),(n==īf)=false,(n==ĦL)=false,(o,h1,h2.1,h3),(ob,h1,h2.2.1),(sizeLine:Nat),step x H5 y5,(u! r).map ďE,upd H1 a īh,Ā3 _ _ n1 q,(ď',λhi=>?_),ĆH _ Ru rfl,(ăp,sr,Ā8 _),λ_ _ q=>ďn,λj=>ħs j 0,λo u e=>üh,λv _=>v=Ż,.inl (ą4,ù3),.int (i*2 ^ ă1),Array.toList_map,Array.toList_zip,CL ù x dx C mA,F.entry_zip_next,Int.le_of_lt Ĭ,Int.ne_of_gt Ĭ,IsPair h' TO x y,KeyKind prog w K,List (Addr×Obj),List.all_eq_true,List.drop_length,List.filter_cons,List.getElem_inj,List.map_reverse,List.not_mem_nil,List.zipIdx_cons,Meth X.K C mt fa,Mod X.K X.mg ùb,Nat.lt_log2_self,Nat.zero_testBit,Nc K x x st f fd,P? u0 u1 g0 g1 M,PySem.IsL.update,Vg×List Vg->øE,W.cellsFrom_some,W.lookIn name od,X.A.handled=none,["place","self"],["self","terms"],ģI==cP.size,aG X ak Ė3 H s',aZ W.K O H us xs,absurd (ĂQ) ĦA,bh v w'->Q w' s',(by ext fS;ext w),(by ext af;ext dF),(by rw[Iw];ext O),(by rw[b_];ext O),(by rw[cO];ext O),(by rw[gM];ext c),(by rw[jT];ext O),(by rw[qG];ext B),(by rw[v_];ext O),(by rw[v_];ext B),(by rw[wI];ext O),(by rw[ĭ,e];rfl),(by rw[ĭ,h];rfl),decide (ýS<ĄA),decide (ĐO<Ĉ5),decide (ĐO>Ĉ5),decide_eq_true h,decide_eq_true q,fk t body n Z st,k b u (hb b n) q,kitCls K Ĝ Ĝ,pl.isList.typeIs,(show ėv from hh),some (.jl o þu),typeIs_int s i t,typeIs_str s z t,us.all flat=true,{D with nx:=u D},Ĥe->ģ7,ģ ģt I.sz,ùF=ō->ÿJ=ō,λ_ _ h=>e _ _ h,λk k1 k2 k3=>?_,λx hx=>hd x ďN,λz ay=>ú8/\ĤQ,∀k∈ks,k≠[],∃u,us=[u]/\ý2,%["factor"|üH],%[ea|oe]∈X.pn,("width":Str),AP X ak Y Q,(_,e,rfl,rfl),(a Z aK).bind,(a,rfl,ia,?_),ao aQ bB fI,ao aQ bX jS,ao aQ bo bB,ao aQ gf bp,ao cA bo cG,ao gC ma mb,ao jc ma mb,binaryOp op,(by simp[h3]),(d Z st).bind,dig ÿ ĭZ,exec st Ā,(f3,f1,f4,f5),g_ ha p! he,(gat P T).map,getItem o i,(k Z aK).bind,k x y H Q q,lo+k-(lo+l),mC (.int 7),ĔF p==0,(o Z st).bind,(oZ 0 us,Ĭp),ones.map tM,putK aA k y,(q (i+j)).map,(rfl,rfl,rfl),(rfl,øi,øi),(s++g).length,(t::T).length,upd H l ăg,upd H p ü5,(wV W).length,x0.2 _ _ hR,Ĕ_[i]?=ō,ús e f pos,(İe).map ŗ,ĉU y.t o.1,Ċ rx .nil,(Čm).map ŗ,(ùi hp).elim,ĆT o i pos,ù6*þf+Ŀ,λt:eZ=>t.1,λxs e=>üh,1*x1+(1*x2+ĳh),6*x1+(2*x2+ĳh),C6 b X.K H l zs,Dp λ_ _ _=>rfl,Env->Option Env,F.slot_int_rmul,G.rp.mem_iff.mp,Heap.DictOf.new,List (Nat×Nat),List.filter_map,List.forIn_cons,List.length_zip,List.nodup_cons,PE X ĀL ģe,PI X tg iter wi,SR W.K bv aK H1,SR X.K dl bP H2,W.excIn.match_6,["_law_shares"],a.setIfInBounds,aG X ak Y H Ăr,aG X ak Y H' s2,aG Ćq ak Y H s,aK++[.ins x []],backTo bw (ĭi),congrArg some e,cs.lookup x=ň,dD hq ŀ rfl e,dW 12 (us++üO),flatten.toArray,gu s d=some ăo,jF Đ X.w H h',kindOf st u=ō,rk xs a<rk xs b,row=[]/\rows=[],scope.names.all,some (c1,us,g1),some (c2,ws,g2),some (some ĥT),vs.toArray.size,vs[2]?=some ăN,ħ0 lo hi 1 úC,ģ a.len b.len,þM=L1++ĬM::L2,ù6*Čt+(d+Ŀ),øm+F e*(v-ûz),þ3 A s v1 v2 b,λ_=>True/\True,λi j=>.int ÿf,λwv Fa dL=>Ăj,λx' H'' y'=>?_,λz m=>h2 z ŕ,∀d∈ds,d<Ŀ,∀e∈ms,ċH,∀f∈fs,f<Ŀ,∀t∈ones,úc,∀x c,ćl->úm,∀y∈A,le x y,%["prime"|üH],%[ûf|%[nb|q]],.bl (nM n),.int (ę0),F.rl r Ĉp,(M+1).natAbs,aN 5 (Ĥ5),below u mu,(c j).length,cM ā E f,fJ Ĉ8 Ĝ9,h.push ĕY,(hi Z st).kh,(lo Z st).kh,ms.map ĖV,nV [0,0,1],newList [],p.1.map jw,(p==0)=false,putK l q z,pyIter øV,pyIter ùV,rawInt ďb,(rfl,rfl,?_),some (ÿk),true==true,upd H a ob,upd H x o',wG b ÿ p,(x b u e).oI,x.fdiv đE,x1.2 _ _ P,x1.2 i c e,(zM b f:Int),ýN X G h1,(Ďo i).take,(ėY).length,(Ę8).length,(ďK).size-1,(ĬQ u mu).1,(İe).isSome,(Ăq).kindOf,ľ Đf hC,(Ă4).length,(Ėn).length,λ_ q=>ďn,λc q=>Čo,λd z=>ĥU,λe m=>ùt,λq m=>đC,.int (dG T e'),.int (ćQ i j),.int (ěa:Int),.int (ýg i j),.tup (nV last),AllBare s.gens,F (Ġ::us) s2,Int->Int->Prop,Int.mul_nonneg,List.forIn_nil,List.nodup_nil,List.take_zero,Pv Ē ys τ H,PySem.W.keepIn,Rl W.K O H u x,W.typeIn K û9,["_law_found"],["_law_share"],["self","row"],_A.C8 X ea oe6,a u τ=some pi,aC b ÿ (ěA),aD bv H1 bi H',aD bv H1 dl H2,absurd h.1 ü9,absurd Đf Ėk,a≠[]/\b≠[],bN øy ĂI=t.1,(by rw[ÿI,Ćk]),cf P w H h a u,decide (997<n),gC īZ (Ąj) s,hU [az 0,az 1],iJ K [a] H c a,iJ K bi H' c a,iW Ăs (ų-1),kN X.K H a ýb,mM X.K H a ýb,oj G top 0 İH,sM false x' y',sM false xs ys,sf K H ś ĀG,some (.dK Đz),some (.fd ăo),some (.int Nk),u=Value.type n,wpAny_bind fin,wpAny_bind ĦN,x0.n.trans G.x,x2.2 _ _ ûq.1,Ā_ ś "dict",Ď' a=some čg,üG ĉ ĉ hi,úD (λt=>Čz),øw e us vs h3,Ć' K Ĝ name,λJS Tr sb=>?_,λb o e hx=>?_,λb o q hb=>?_,λb o q hx=>?_,λc o u q=>Čn,λh' ay sb=>?_,λh' tk hk=>?_,λh' tk hm=>?_,λu m=>h u ŕ,λu s1 ÿ7=>?_,λx m=>h x ŕ,λĄh=>Ė ùx,∀u∈Ęz,Ēt,∀w∈ws,1<=w,∀xs,ăf->ûk,⟨H1,I1,q1⟩,⟨k0,l0,a1⟩,⟨oe,Ob,ce⟩,⟨ok,ov,he⟩,λy=>h1 ąc,ax ÿZ øp,typeOf Ċw,(Ğm).map tV,H a=some (ĒH),sf K H ś ąC,∃o,āO b=Ă,%["back"|Ēq],%[sa|%[na|p]],((_,he),hi),.jl o ü5,A7 kn b h,F.rl r mr,F.wl w mw,Ff bG.len,Or.inr hl,R.map øh,T.any Īh,T.map øh,(X.ug E).Ok,([],bg,Ċo),aZ.ints _,ag fI ĪG,ag ĘU aw,ag ü7 aw,ag ĂF aw,ax C_ øp,ax HY øp,ax c7 øG,ax c7 ýd,ax qw øG,h.ok t mt,(i+n).toNat,(i-j).toNat,isV false,jI f v fs,(k',u')::aA,lZ d b0.1,ltAt' i j,m_ aA q v,p_ f y fs,tE X E ma,tE X E mo,tI X E it,tT X E Np,us.take n,ys++[ĭ7],ys++[ěa],zs++[ē],ź L Ėj,āb-(r+1),(ýT-1) / 8,(ďJ z).mpr,(ěX).foldl,Ēr b o e,(Ēu).Nodup,(û2 m).map,(ĆC).trans,Ő "abs",Ő "all",Ő "min",(Ās).trans,øk (úH),ù6*ěB+d,(ăp,sr,ru),λa b=>?_,λv m=>?_,.dK (Ēs øh),.dK (Ėr ûR),.ins C ü [],.ok false ùz,.tup (nV r.1),1<=u.2/\u.2<p,Bool.or_false,Bp K c m q st,CmpOf.ints_gt,D4 F q Ē mo,Dn r X lo ă2,E Ĝ none H',I.aR r mr t m,Int.le_refl _,Int.ofNat.inj,IntsAre us xs,N!.mZ b o u e,Nat->ķ->ùa,Nat.lt_irrefl,Nd c o ĎU ho,Obj.mapFields,Passes CX X E,SR K bi ay H',Up r X lo ă2,Value.isStrOf,["lex","deg"],[øx,o,Ā7,r],absurd rfl O?,ap.gens = #[],(by ext aK;rfl),(by rw[eE];rfl),(by rw[rO,ü']),(by rw[uZ,ùo]),cB λ_ _=>ÿH,eJ K O H l oh,h w' _ Ċv AI,h.IsTupleIter,h2.IsListIter,i<k->ėP<=īn,jF P w H' ù7,kN X.K H p ys,ln F (gg Q B),mM X.K H p ys,mroIn K C ĕC,nI us=some bs,ns.contains n,on.get? c=Ă,pure (ĩA ok),qs.contains c,r x lo hi H Q,rowsP[i]?=ýz,s2++[ą üO],sM true x' y',sM true xs ys,some (.mod _),some (ą us),st++[aH.dT a],takesIn K ąB,uI āL þa s6,uR aK dv=true,uR s üj=true,uh fp s5.heap,valueAt ķT k,wpS_modify ?_,xG l us Z=ĉJ,xs.toList.map,ų<=sizeLine,øB (ý3 þI),ú->ú->ú,øJ x=some ox,ø2=cg.length,ĉ<=sizeLine,øw e _ _ r.2,ýl/\Fc≠r.1,þL.2.2.2.2.1,λb o q _=>?_,λc bW=>Đs.1,λc xs q=>Čo,λc zs q=>Čn,λd zs z=>ĥU,λm=>xs[i+m]?,λr mr=>ûq.1,∀b∈fp,ĐF,∀n∈cs,n<L,∀r∈as,ùW,∀r∈bs,ùW,∀t∈rs,úc,∀xs,o≠ĒI,∃a,úT/\þZ,⟨a,sb,ha⟩,%["key"|üH],%["top"|Ćw],%[false|ěC],%[false|ěD],.inl øF,.int 997,.int īg,.int ĬN,.int ę2,.int Đy,.int Ĝ',.loc x.m,.lst ēp,.nx Z aK,.ref f48,.str x t,B.map tM,Cy false,(F e*k,?_),(H1,I1,q1),Hr false,IK ėJ F,IK ėJ f,IW b o e,Int×Tok,Itd lo n,Itr lo n,L1.at ?_,W++[Ĝb],(_,he,ĥg),(_,ħ hj),(aE,r,p,z),acc++ĪS,ag fI aw,ag jS aw,ag tJ aw,(by rw[e]),(by rw[z]),hDf b hb,hc k ċ,hf f ċ,hk b u e,hr0 r mr,hw w ċ,(jG k).map,(k,ąJ,?_),kU Ą7 w,(kr P).map,lZ d h.1,mC _E.fN,nV [0,1],pyIter v,qF q i t,(qo k).map,(r6 l).map,some ę2,some ĚV,some Ċw,sub b hb,(t::T).map,tA ā a,tA ĄS a,tS X E b,(u',r',?_),(u,mu,rfl),uE b2 l2,(v,rfl,h2),wG b w p,(x+y)::Ąc,(·.frame),(Ďr).mono,üF n c',(ĪA).elim,ĭS u mu,(ûW mu).1,ĉU x mx,(Ą6).bind,Ķk::ĐX,Ċn::āa,Ğv->ýl,š _ mk,š _ my,(Ču).get?,Ću _ hp,(ĥB).get?,(ùj hi).1,Ł _ Jv,.int (x-q*y),.ok (ĪM) st,.ok (ĭ5) st,.ok (ĭ6) st,.ok (úY) st,.ok (Ėb) st,1*x+0<=1*y+0,Bool.or_true,DO āR ý' s,E cls none H,EX cls ea H',Good r a b m,Int.add_zero,IntMulOk i j,IsPart vl lo,IsPart vu hi,Kd p m h v k,N!.nS b xs e,N.drop k=ĈA,N.take ĀW=P,Nat.and_zero,Nat.le_of_eq,Nat.mul_comm,Nat.pow_zero,Option (ùS),Option (ý),Option (ŭ),Option (øs),Pc ĞN (Ę8),Pv n ys τ H,PySem.Within,Q true (ĕq),R1 bv H1 u x,Rl K O H d x,Rl K O H v x,SR K O st H',Up r a 0 Ŏ,Up r b 0 øa,W.mg_none_of,W.of_hideAll,[jw p.1,p.2],[x, y, qL n],_A.bS prog w,aD O H O ĩ8,aD O H dl H2,aO (aS e hT),aO (aS q hT),aO (aS q hn),absurd h Ė2,absurd rfl n,absurd rfl z,ai->bR (Ū),ao f a b Z s,b (Ċp)=true,cC X ĉw ĵ,dI k callerA,dP t B C Z s,decide (c<d),decide (n<0),decide (n<2),decide (āZ),decide (ąL),gC Ĝ8 ùg s,h _ _ Ċv ?_,h'.objs.size,hk a o ho hc,i? 16 st u w,if_pos (ü'),j! ýC (ĆN),jA p aj rest,k.getLastD 0,kX Š=false,kat_cons ĦN,l.row.toRowW,leT us ws st,nU X ak H' b,o.fmod (ěK),pkF b aj w g,preSum Ăs k,pure (ĩA r),s'.heap.get?,s8.heap.get?,tyV K T x H1,y49.2 _ _ e4,yS F S (h f),ys[k2]?=none,zJ (λy=>?_),zO f j i ø,üG ăW 0 lo,ŭ ×Vi×Vg,ús o f pos',ÿE λj=>ħK,ıf->Q x Ţ,Ė (lo+ùx),Čp (øv hj),ĉ<sizeLine,øw e _ _ ra,Āu a ù h',ĆT o i pos',ĥZ=pure cl',Ņ::u::more,λ_ _ _ h=>h,λ_ _=>Ā8 i,λi y hy=>?_,λj=>ž j.m,λn c _ e=>e,λn k _ e=>e,λq=>j! aA q,λz h=>(úa),∀x∈P,ĭk,∀x∈W,ĕK,∀x∈a,S x,∀x∈b,S x,⟨u,v,AA⟩,⟨ĳb,hi⟩,.dK ĐA,.fd Ďl,.loc Rs,Ite K a,Itl K a,Itt K a,QV te t,UT y my,(Y,H,I,h),(_,rfl,q),aN 2 bX,aV q ne,acc++aE,ag m aw,es++[e],f2 b hb,ft t mt,ft u mu,h t ċ,h.2 r m,hS x mx,hS y my,i? n st,ig b es,kK 10 0,kK 10 1,kK 10 2,kK 10 6,kK 10 7,kK 29 0,ms++[m],(n :: ·),(o,e,ħy),pL.mp z,r3 r mr,rD aA k,(rfl,fin),st++ĲK,tSE X a,ts++ć8,u0-q*u1,(x,y,rfl),ys++[m],(· < ·),üp x34,(Ħ6 e).1,ź n c,(Ďg:Int),ėN ě,ĎL-ćT,(ĨK,rfl),(Ąc).sum,Ąf Z k,(ďI).map,(ü6).map,Ň b a,(ĉc:Int),ûK Ĵi,(ûL).map,ĵq-Č1,ąb āY,ēs::aA,(ąK).map,ēY ćY,úC-Ąh,ûd zlt,(ýj:Int),Ėr Ĉ9,þW Ĩm,þW ŗ,þ2 ık,.er c ul bP,.inr (o,h1),.int (lo-i),.ok (!k) st,.ok .cq ùz,.ok none st,.ok øq ę9,.str (i++j),2 ^ (w*Ē),A.any (ċ6),Bg n u=true,Code.frames,D.TOi1.symm,D.TOi2.symm,D4 F q i mo,Eb p aj q.2,Gm s cs c 0,H øy*x.t.2,H' ü=none,I.Iy r' mr',I.nT a o hk,I.stack.mem,Int.add_mul,Keyed->Prop,Nat.add_mul,Nat.zero_or,Paired.snoc,Q8 b o q hb,Shared.heap,Told s' S W,Value.float,Value.isInt,Vg->Vi->ùa,Vi->Obj->TS,W.methodObj,Walks.range,Walks.tuple,X.fn y=true,Z.set i ÿP,[.ins c []],[v,o,Ā7,r],aC b ÿ e',acc.toArray,atKey ķT k,b Ĝ_=false,(by simp[jW]),b∈([]:Ve),cC X sa ēo,cl'.map ď,dH (ē3 kf),e0.bE.fresh,fresh b o e,gat P (ħ5),gs.lookup f,hl.of_keeps,iK p.1=iK k,jA p aj w.2,jm (p::r) k,lexLt xs xs,lexLt xs zs,lexLt ys zs,ln Ėg x.tl,mM K H p xs,min ùp Āj,min ùw ÿl,o.ExactDict,oe.data=Ċq,ones.length,out.reverse,pG t.1 0 fs,pend.toList,q _ I.fresh,rest c Z st,s++[ą IA],s1 (Ėd) st,sF g u w st,sc.kind=Ď2,some "dict",some "list",some (a::b),st[Rs]?=ČM,v8 left k n,x2.2 _ _ hq,x7.trans x8,y1.trans pY,yD xs lo hi,yY K C=true,y_E._auto_1,y_F._auto_1,y_H._auto_1,z=%[none|n],z=%[none|x],zH1 b1 h l1,ĩB _ _ ě,ďL=ýF ûv,ÿE (·.rs),ĴU=some cd,ûc (F e) p,Ł _ (Ķm),Ć6 ø ø,ĸ "range",ćp ē Ş,λe=>nL ĩ7,λh' hx=>?_,λi _=>n<=i,λi q e=>?_,λi u e=>?_,λrest=>ùO,λv=>%[v|v],λy=>TZ y u,⟨m0,w0⟩,⟨t,m,h⟩,⟨t,m,q⟩,ûu #[.int lo t,.int hi u,.int 1 v],ûu #[.int lo t,.int hi u,.int (-1) v],ag (cH (ag i! ĝj)) (ag (cH (ag cG ĝl)) (ag (cH (ag bp ĝm)) aw))]
variable(I:ĥ){b:Bool}(st:ai){n:Nat}{x:Str}(i:Nat){us:ý}(n:Nat){st:ai}(hm:aj<=8)(b:Bool){w:Nat}(m1:1<=aj){e:þ}(Z:Env)(h:Heap)(_:∀(ak:U')(s:Vh)(Y:St)(H:Hp),0){vs:ķ}(_:∀{E:U!}{s:Vh},0){T:ú}{k:Nat}(x:Str)(k:Nat){us:Vc}{i j:Int}(hp:0<p)(hh:ĺi)(w:World)(i:Int){i:Int}{p:Pos}(_:∀(ha:Ďd)(hb:PE X b Đu),0)(hv:ċl)(n:Int)(p:Int){M:Model}{w:World}(us:ý)(hd:Ăo)(hu:ĠF+64<cLine)(e:þ)(y:ć)(hc:ĈG)(W:ĝU){fd:FuncData}(hg:āC)(aj:Nat)(e:ún)(_:∀(jY:Ăo)(he:Ći)(g!:ĵh),0)(hp:ÿh)(_:∀(O:Ve)(H:Hp),0)(_:∀{u:au}{v:V},0)(rows:dQ)(ns:Vb)(x:ć)(C:HI prog w A s κ S r)(_:∀{Y:St}{H:Hp}{s:Vh},0)(p2:p<üv)(hm:aj<=3)(es:þ){p:Bool}(us:Vc){S:Nat}{Z:Env}{i:Nat}(hn:autoParam (ė3) ĀQ)(ha:PA X ŵ Ďq){scope:Scope}(_:∀(K:Va)(mg:U?),0)(b1 b2:Bool)(hh:Čd)(xs:ķ){aA:ùU}{cl:ü3}{t':Nat}{F:Ćy}{d:Nat}(h:üQ=ýO)(_:∀(X:Cx)(ak:U'),0)(_:∀(H:Hp)(a:Vi),0)(ry:ąs)(T:ú)(c:Str)(s':Vh)(w:Nat){Z:ùA}(_:∀(hg:āC)(hm:ēc),0)(_:∀(p2:2<=p)(p3:p<=97),0)(_:∀{aA:úr}{l:ùl},0)(lo hi:Ū){lo hi:Nat}(hp:2<=p){body:MB}{st:Stmt}(p:Bool){mo:ým}(m:Nat)(x:Ĵ){j:Int}{l:ùS}{o:Obj}(iD:autoParam (ĖY) Č)(_:∀(k:Nat)(aX:þ),0)(_:∀{xs:ķ}{us:Vc},0)(_:∀(X:Cx)(E:XK),0)(i j:Int)(s s':ai){Y:_A.St}(D:Ends)(ok:ĕU)(vs:ķ){es:þ}(sr:þp)(f:Str){A:ş}{c:Str}{ms:MA}{n:Int}{x y:V}(hf:autoParam (ĝN\/Ăx x=ùZ) ĈL)(_:∀(P:Vk)(w:World)(K:Va)(mg:U?)(base:Heap),0)(_:∀(X:K.In h)(G:Ę9),0)(_:∀(P:Ěz)(hw:w<=64),0)(ho:PE X o Ŀk)(_:∀{K:Va}{mg:U?}{base:Heap},0)(ha:PA X ŵ t)(hN:ĠG)(hr:dI k X.A){Q:Unit->øE}{top t c:Nat}{C:Vc->Prop}(_:∀{K:Va}{mg:U?},0)(_:∀{b:Vi}{o:Obj},0){items:Ů}(_:∀(H:Hp)(s:Vh),0)(_:∀(K:Va)(C:Vi),0)(T:String)(_:∀{v:V}{u:Vg},0){a b:Int}{e f:þ}(lo:Int)(mo:ým)(sr:Āg){tp:Pos}{xs:ķ}(ts:ú)(F:Ćy)(l:ú)(v:Int){f:Str}{l:ú}{m:Nat}{ps:Vf}(hs:autoParam (∀x,foldedSetIterable iter Ā x=pure x) ĝ4)(_:∀{E:U!}{s:Vh}{κ:SortKind}{S:ŅL}{r:čy},0)(_:∀{aA:ùl}{vs:ěV}(r:ĉA),0)(k:∀Y H Q,t' Y H Q->ýX)(_:∀(ha:PE X a ta)(hb:PE X b tb),0)(hf:env.frame=some L)(_:∀(aj:Nat)(wt:ĄP),0)(hS:∀x∈X,S x)(hk:kindOf st=κ)(_:∀{gd:ør}(hg:gd s),0)(hr:we r=false)(hu:ýk<cLine)(_:∀(m j:Nat)(s:ai),0)(_:∀(r:Int)(A:ş),0)(_:∀{A:ş}{k:Vb},0)(e:H a=úJ){Q:Vd->øE}(_:∀(W:Wo)(E:XK),0)(_:∀{g:TG}{Q:VK},0)(_:∀{s:Vh}{a:Vi},0){T:String}{body:úF}(body:MB)(m:ċR)(sub:ČB){n m:Nat}(d:Bool)(ha:þZ)(he:čz)(hs:Ći)(ks:øs)(vs:ý){aA:ćf}{c:Expr}{es:ĕ6}{ts:ú}(d5:Vg)(h:Ė_)(h:Āc)(h:ĥr)(h:ĥs)(j:Nat)(r:úv)(r:čy)(t:Tok)(te:TE)(x:ĕU){H':Hp}{c:Int}{c:ýA}{f:ĥ1}{p:Int}{r:ûF}{v:Int}(_:∀(hb:Binds X.K fd ps ds)(hd:ba xk ds)(hx:Ŀ4),0)(F:gN Đ X.w X.K X.mg X.base CX k f fd ps sp)(_:∀(hl:ų<=1000)(hS:ĈX),0)(ha:PT X a Đv)(Az:A.frames=some ĂD)(h:ĔE=.ok us s1)(h:t Z s=ĄB)(_:∀{es:þ}(h:jz aj es),0)(_:∀(hv:v<63)(v1:22<=v),0)(ha:PT X a tA)(hl:ų<=1000)(hq:ā9=ĕM)(_:∀(vs:ý)(ay:ai),0)(h:Cq p a b){Q:Ăn->ûS}{a b c:Expr}(_:∀(X:Cx)(e:Expr),0)(_:∀(aA:ùl)(k:κ),0)(_:∀(cs:Vf)(f:Str),0)(outer:Čx){id:String}{us ws:ý}{xs ys:ķ}(hv:20<=v)(hv:23<=v)(l1 l2:Vi)(q:k! K C){a b:Expr}(_:∀{a:Vi}{o:HO},0)(e f:þ)(env:Env)(hg:g st)(i j:Nat)(row:ú)(st:Stmt){H H':Hp}{M Q:Nat}{x:Keyed}(_:∀{u:au}{x:V},0)(_:∀{y:V}{u:Vg},0)(a b:ME)(ds:þ)(hp:ø9)(nd:Āa)(xs:ďl)(zs:þ){a b:Vi}{a:Expr}{fs:ĂJ}{u w:au}{ws:ý}{x y:au}(_:∀(D:ZipApart z TI TO i1 i2 l1 l2)(hz:IsZip ù z TI TO ė)(yQ:IsPair ù TI Ğy Ğz)(AA:IsPair ù TO a b)(h1:dm b1 ù i1 l1 k1),0)(hs:autoParam (swapsWith e none Ē8 Ā=Đ') Č)(_:∀(h2:dm b2 ù i2 l2 k2)(Nf:ĚD)(Jr:ĚE),0)(hs:autoParam (starEach [a] Ā=[ŀ']) Č)(G:wH aj wt Wm p b row rows s s' S T W rest mo R q v)(_:∀{aA:ćf}{xs:ći}(r:Ğ7),0)(_:∀(hN:ĠG)(hi:ē4)(hx:Loc ĀJ x),0)(_:∀(X:ÿq)(hx:Ũ x=some ox)(hc:ğv),0)(_:∀(kV doc pm:Vg)(an:úM)(d5 ct:Vg)(us:Vc),0)(_:∀(hg:Gl X "range")(hm:X.mg "range" = none),0)(hp:PassesOwn Ć X.A Ā X.xe)(nW:ĮP)(_:∀{b1:Bool}{z TI TO:Vi}{xs ys:Ů},0){kindOf:Str->Option NameKind}(_:∀{e f:þ}(h:ās)(k:ģU),0)(_:∀(ua:ł4)(ub:ł5),0)(ho:PE X o Ĝm)(_:∀(X:Cx)(N:Vf)(scope:Scope),0)(ha:PE X a ta){pl:Sem Bool}(e:H a=þy)(e:nX H H')(h:Š=ũ)(ht:top<=8)(rows W:dQ)(us ws:ý){Q:α->ûS}{left:Bool}{st:SortSt}(outer:ûj)(_:∀(A:ş)(k:Vb),0)(neg:Bool)(ta tb:TE){qual:Str}(H H':Hp)(_:∀(K:Va)(a:Vi),0)(m j:Nat)(n d:Nat)(prog:Vk)(_:∀{A:Vj}{E:U!},0){S T:Nat}(_:∀{Y:St}{H:Hp},0){env:Env}{tab:úo}(_:∀(hs:autoParam (starEach [ø8 n q1,ēf] Ā=%[false|eval (ø8 n q1) Ā]::ėZ) Č)(cO:autoParam (ėZ=%[false|eval (ēf) Ā]::ĚK) Č)(g!:autoParam ((backTo pos (ėZ)).any ď=false) Č),0)(_:∀(hN:ĠG)(hi:Ĕk)(hl:Ăx n=ùZ)(hg:āC)(hm:ýM=ûZ),0)(hs:autoParam (swapsWith e (some (ø8 x pos')) Ē8 Ā=Đ') Č)(M!:∀b∈ch,ĳq/\ÿy/\ħ8)(_:∀(U2:ob.cls=ùk)(jY:ob.data=.seq vs m)(ia:IntsAre us.toList xs)(ib:IntsAre vs.toList ys),0)(_:∀{n m:Nat}{P:ěn}(ha:Ũ a=some oa)(hca:oa.cls=ùk)(U1:oa.data=.seq us n),0)(_:∀(hp:ÿh)(hR:ar s R=some (ċK))(hq:įO),0)(_:∀(hi:İ3)(hx:autoParam (Loc ĀJ x) ĈL),0)(_:∀{b:Vi}(hu:A.units<cLine)(h1:fQ ù (Ņ) xs)(h2:fQ ù (.ref b) ys),0)(iC:autoParam (attributeBase o name Ā āW=ü_) Č)(_:∀(st:tn 0 ù)(hf:Ča)(h:ıb),0)(_:∀{st:Stmt}{oc:Vg}{od:úM}{kV pm ct:Vg},0)(_:∀(mu:Mut (H x))(he:e=x\/H e=some Ēh),0)(_:∀{n m:Nat}(h1:üD)(h2:ar st m=ûC),0)(g!:ĵh)(_:∀(hu:ĠF+1<cLine)(ho:Ġz),0)(_:∀(i j:Int)(t u:Tok)(s:Vh)(Q:U!)(E:U!),0)(_:∀{w a b c e:Nat}(hb:b<ĕ)(he:e<ĕ),0)(_:∀{a:MA}{vs:ý}(h:ùI=.ok vs s1),0)(hB:Ċm X.K Ĝ ĕC=Ğ)(hk:∀b o,ûl->ýu -> ĂM)(_:∀{q:Vk}{XP:(U?)->čx}{d:DefRec},0)(nd:(øK Ģ9).Nodup)(_:∀(A:Vj)(outer:ûj)(s:Vh)(H:Hp),0)(F:Nc K x qual st f fd)(hr:PH X rest (OK X r))(_:∀(hb:ČO)(hx:Ŀ4),0)(bE:jF Đ X.w H' h')(_:∀(C:Vi)(fp:Ve)(s:Vh)(H:Hp),0)(_:∀(ts:ú)(x y:ć)(ys:ý),0)(_:∀{g:ør}{a:AS}{c:MT}{e:ME},0)(h2:ąr=.ok y s2)(hS:ee X.K X.mg tab)(heo:∃u,ùn e=Ę)(_:∀(e:ģp)(c:ġ1),0)(h:Ku X.K X.mg x)(hv:þh=some þR)(_:∀(h1:Ā2<=j)(h2:ċJ),0)(_:∀(sp:Sp)(xk:ķ)(E:XK),0)(_:∀{c:Prop}[Decidable c],0)(_:∀{m:ME}(h:PE X a ĂC),0)(hX:Raises X E)(hr:dI øe X.A)(g:qh H a y o)(hl:ĉ<=1000)(_:∀(h1:ÿm<bk)(h2:bk<ŋ),0)(hn:ÿm<n/\n<ŋ)(_:∀(hG:G<āb)(hr:r<āb),0)(hn:l.most=āf)(_:∀{c:aH}{a:Vi}(h:Ęu),0)(fd:FuncData)(hm:aj<=1000)(hpn:X.pn=[]){Q:Bool->ûS}{l:W.OpenLaw}(_:∀{n m:Int}{e f:Vb},0)(hm:ýM=ûZ)(_:∀{A:Vj}(r:dI k A),0)(_:∀{T R:ú}{q:ŧ},0)(ds fs:þ)(h:L6 v st)(h:ùI=ć7)(ne:e≠[]){a r F:Nat}{outer:Čx}{outer:ûj}{us vs:Ů}(_:∀(ea:Vi)(cls:Vg),0)(_:∀{Q:ďQ}{x y:Vg},0)(eG:G=Ħt)(qual:Str)(rest:ú)(sc:Scope){C fp s H}{lo hi:MO}{n:String}{rest:ûr}{xs ys:Vb}(_:∀(iH:autoParam (ħX) Č)(kind:autoParam (Ğe) Č)(names:autoParam (Ħx) Č)(len:autoParam (ĚL) Č)(hN:autoParam (łM) Č),0)(_:∀(P:ùA->ør)(M:ùA->ai->Nat)(Q:Ģk)(hs:∀Z st,ąl->(∃aK,ÿo=ăD/\Q Łk)\/(∃aK v ay,Ĥh/\ĉh=øb/\Q (øb))\/∃aK bn ay,Ĥh/\ĉh=Ŧ/\İY),0)(_:∀(iH:ħX)(kind:Ğe)(names:Ħx)(len:ĚL)(hN:łM),0)(_:∀(P:ġ0)(M:Env->ai->Nat)(Q:ġ0)(hs:∀Z st,ąl->(∃aK,ÿo=ăD/\Q Z aK)\/∃aK bn ay,Ĥh/\(ĉh=Ŧ\/ĉh=ù5)/\İY),0)(_:∀(B:þr)(hi:İa)(hg:∀C fp s H,PG ú1 tg Ł6)(Tb:∀C fp s H,C2 ú1 ifs čW)(he:∀C fp s H,PE ú1 elt ĵ8),0)(_:∀(hs:autoParam (starEach ĉD Ā=[ŀ',Ła,Ĵe]) Č)(cO:autoParam (starEach [b,c] Ā=[Ła,Ĵe]) Č),0)(_:∀(hg:ęD)(hm:ėE)(hgx:āC)(hN:ĵA)(hv:QQ ĀJ n:=by first|exact Or.inl rfl|exact Or.inr (Or.inl rfl)),0)(_:∀(hg:āC)(ha:PA X ğ_ Ďq)(he:autoParam (starEach ğ_ Ā=ĳd::ďc) Č)(g!:ĮP),0)(_:∀(hs:autoParam (starEach ēF Ā=[%[false|eval ea Ā],ĳc]) Č)(cO:autoParam (starEach [eb] Ā=[ĳc]) Č),0)(_:∀(hW:∀m,m=aj\/m=1->jB m wt Wm)(hR:đ8)(hr:∀r∈rows,ùW/\Ěa)(hq:s[q0]?=þg)(oR:ęO),0)(_:∀(hd:autoParam (ĹC) ĀQ)(AF:autoParam (ĹD) ĀQ)(hdx:Ăo),0)(_:∀(ha:1<=Ŏ)(hb:1<=øa)(h0:Ěb)(hl:K r b Ĥy<=K r a (Ŏ-1))(h:∀m g,łF->Q m (Gs st g)),0)(_:∀(pa:PlainAttrs T)(slot:Slot T name id)(SJ:typeOf (Ő id)=ĬH)(hm:MtR X id r)(ho:PE X o to),0)(_:∀(hi:Ļ3)(hg:ıl)(Tb:įM)(he:įN),0)(_:∀(h:mg x=some (Ņ))(l:K.lookup a=Ă)(hc:āH=ùk)(hd:o.data=.seq aE n)(hz:ėF),0)(_:∀(X:ďZ)(nz:Ģ0)(nL:L ∉ zs)(St:ĳP)(S:Ld s L zs b ÿ T q),0)(hs:autoParam ((assignEach ŵ Ā).map ŗ=assign e Ā::(Ėn).map ŗ) Č)(hsw:autoParam (swapsWith Ăl (some (ø8 y py)) JM.line Ā=pure true) Č)(_:∀(hdf:ĳY)(hr:Ńl)(hY:∀[27][15],YP w h->ĉv h),0)(_:∀(hm:X.mg x=ûZ)(hq:ģG X.K C bm newId=true)(FB:ExcBaseFacts B newId C7 bm),0)(_:∀(O?:ns≠[])(h:∀t h' tk,Ĕ5->Q (.int (Ľ4) t) ü1),0)(G:gN Đ X.w X.K X.mg ùb CX k fa fd ps Łs)(_:∀(t:ĭo)(nd:(Ċ1 Ğp).Nodup)(hz:Ă'),0)(_:∀(hs:ĭg)(pl:łI)(pu:łJ),0)(he:autoParam (ĭi=Āh::ĚK) Č)(iC:autoParam (attributeBase o "items" Ā āW=ü_) Č)(_:∀{tb:Ti}{th:Of}(dx:DefX X)(hb:G7 X body tb)(hh:PH X ĝr th),0)(hm:ČF:=by first|exact Jb _|(ext mS))(_:∀{M q:Int}(h:ĺd)(hq:0<=q)(h1:1<=g1)(h2:0<=g0-q*g1),0)(_:∀(X:ÿq)(I:ĹW)(hg:ğa K C name=true),0)(hf:autoParam (ŅZ\/Ăx y=ùZ) ĈL)(_:∀(hx:đW=none)(hE:∀h' e,Ĳz->Ĥ_),0)(_:∀(G:FnAt Đ X.w X.K X.mg ùb x k f)(hr:Ģn)(hk:k<=j),0)(_:∀{τ pi:ùA}{st aK:ai}{ys:ý}(hg:g st)(h1:ĽP),0)(_:∀(hB:∀u∈B,Ă0/\-(ŋ)<u.2/\u.2<ŋ)(lB:Ċg<=100),0)(CD:autoParam ((Ėn).findIdx? ď=none) Č)(_:∀(hl:ē6)(hd:ļD)(hf:ļF),0)(_:∀{S T:Nat}{W:dQ}(F:wJ p d aj row rows L S T W rest s),0)(_:∀{rest:ĆY}{sub:ČB}{s:MB}{r:MH}(hS:Ue X.K X.mg sub),0)(_:∀(hg:Gl X "enumerate")(hm:X.mg "enumerate" = none),0)(ha:∀W,PA (X.ug W) ŵ (tL X E0 ms))(_:∀(hit:s.heap.IsTupleIter it t i)(ht:Ć9 t items),0)(_:∀{R:ēz}{E:U!}{lo hi:Int}{t u v:Tok}{tk:Nat},0)(_:∀(h1:Ā2<=lo)(h2:lo<Āo)(h3:Ā2<=hi)(h4:hi<Āo),0)(h:∀tk,Q (ċY) {s with toks:=tk})(_:∀(h1:ŀ6)(h2:∀x u,o≠.jl x u),0)(hit:s.heap.IsKeyIter it d i øl ep)(k:∀v Y H Q,t' v Y H Q->t v Y H Q)(k:∀x y H Q,t' x y H Q->t x y H Q)(_:∀{K:Type}[DecidableEq K]{knd:Ĺ1},0)(AF:autoParam ((x==ĦL)=false) ĀQ)(T:JI Cd Đ X.w X.K tg J fp it tn)(_:∀(h1:LG ù a n e)(h2:LG ù b m f)(hl:ùT),0)(_:∀(hit:dm b ù it t i)(ht:jn b ù t items),0)(hs:autoParam (yG b) ņL)(_:∀(sr:þp)(rd:ł1)(rk:Rl K O H k y),0)(_:∀(tg:Expr)(J:It)(fp:Ve)(it:Vi)(tn:ġ9),0)(A:autoParam (Ă3) ņN)(h:Hnd row rows rowsP L0 D H s)(he:Ĥa=none\/ŃP)(hfl:þn base ĂD e cls a0 ù)(k:∀D Y H,t' D Y H->ģ5)(h:iM st u=some %[c|%[us|g]])(_:∀(hg:Gl X "zip")(hm:X.mg "zip" = none),0)(hv:PE X value (tE X E mv))(_:∀{g:ør}{A:AS}{Z pc ul:ùA}{st bP:ai},0)(hb:kM X sb (tS X E body))(_:∀{m:Nat}{v:Vg}{k:Vb}(t:łK),0)(_:∀(US:ńd)(UT:ńe),0)(h:it Z s=.ok %[us|g] s1)(h:R (.ok (.ret Ĝ)) s)(F:ApF L ρ HL H cs ds)(_:∀(h1:fQ ù x xs)(h2:fQ ù y ys),0)(_:∀(hx:S x)(hy:S y)(h:Q (some (ė1)) st),0)(hx:Īv h ù e cls args)(h:∀a st,āy=k' a st)(_:∀(hx:Ĥa=ī)(hy:ys[k2]?=ûE),0)(_:∀(X:Cx)(o:Expr)(m:Str)(apos:Pos),0)(dv:dvd øy t.1=true)(hp:∀q∈pn,q∈Tu)(k:∀b u,b≠e->ĕG)(_:∀{b:MB}{h:MH}(hk:Known X.mg kn),0)(h:HE le Nh out A B)(h:C6 b X.K H a xs)(h:i? 16 s x y=ġ)(hQ:∀h',ĦJ->ČD)(_:∀(hS:∀x∈xs,S x)(hy:S key),0)(hb:sysModules<úG){g':Array GenState}(h:Rl K O H ÿK v)(h:üQ=.ok ű s1)(hm:üQ=.ok üj s)(hv:PE X value tv)(r:aZ K O H us xs)(_:∀{v:au}{k:String}(h:ĚG=ō),0)(_:∀{xs:øs}{a b:Vb}(ha:a∈xs),0)(_:∀(L ρ HL H:Nat)(cs ds:þ),0)(S:dw N ps scope)(h:kN X.K H a xs)(h:mM X.K H a xs)(hF:NoF X.K cs f)(ha:PA X [a] ĚW)(_:∀(ha:sj 400 a)(hb:sj 400 b),0)(hb:kM X body tb)(hl:đA<sizeLine)(hl:ća base ĂD)(ho:dE X ĩL ĎZ)(hs:∀ea oe,Ħ7){RR:Vg->Env->ĀO}(h1:PS X s1 ĚX)(h:ÿU us i=Ĥ)(h:∀t∈P,úc)(ha:PA X [a] ta)(hl:ĀW<1000000)(hl:üf<=100000)(_:∀(i0:0<=i)(i1:i<(ĜN:Int)),0)(x:dm b h i l k)(_:∀{w r:ùB}(hw:ęZ)(hr:Ĳ2),0)(_:∀(X:Cx)(id:String)(r:ý1),0)(g:Int->Int->V)(h:Fy s R rows)(hc:PT X c ĚY)(he:PE X e ĬX)(hg:AllBare g')(hi:PE X i ĬX)(ho:PE X o ĂC)(ho:dE X ĩL r)
example:=by ((refine aa ?_;clear aa));(refine bcn λaa=>?_);((ext aw));dsimp only;(cases h);split at h;(cases e);(.ext u);trivial;exact h;(let⟨Z,O,st,rs,sr,h⟩:=aP);subst e;exact q;exact this;exact z;intro Y H Q aP;intro ak s Y H Q I h;subst this;exact h1.elim;(let⟨a,rfl,ha⟩:=r1.cY);exact ĊO;(rw[z]at h;cases h);rw[č];rename_i hz;refine go Z O st rs sr h ĬJ;(let⟨v,rfl,r1⟩:=r.uH);subst z;exact đQ;(let⟨t,rfl⟩:=rx);constructor;(.ext bL);intro ak s Y H x y v u Q I rx ry h;(let⟨O,st,u,w,sr,r1,r2,h⟩:=aP);intro x y H Q aP;dsimp only at h;exact ŉ e;exact ł;(cases hk);(cases q);intro X hP hw hK hc i ak s Y H E I hf st hg;exact Ās;(let⟨O,st,us,sr,r,h⟩:=aP);refine Ğf;refine ăC;intro xs H Q aP;subst hP hw hK;(cases rx);(.ext i);(have x1:ýV:=ĺt);intro ak s Y H D I h;exact h2.elim;split at h1;exact hz;(cases h2);(.ext s);rw[ń];rw[Ī];injection e with e;rename_i n;rw[z]at e;exact h2;(.ext e);rw[Ď];intro D Y H aP;exact .nil;exact h1;(let⟨f0,f1,f2,f3,f4,f5⟩:=hf it Ĉ);intro ak s Y H xs us Q I r h;(let⟨t,rfl⟩:=r);exact(_,e);exact ùM;rfl;(cases hz);(cases r1);(first|ext fp|ext K|ext as|exact Ķ4|ext cl|exact ĎJ|ext ex|exact Ę3|exact ăv Ĭ|ext ou|ext ox|ext ov|ext ow|exact ćH Ĭ|exact ĳN|exact ĳM|exact ıG|exact ûd Ĭ|exact œ Ĭ|exact ĆM Ĭ|exact ĲF|exact ęG Ĭ|exact ĲE|exact ĹY|exact ĮL|exact ĮK|exact ĳG|exact ĹZ|lia);rcases ŏ m with rfl|m;exact h _ _ _ k1 k2 k3;(rw[e]at h;exact h);refine Ăj;rw[e]at h;rw[z]at h;refine go Z O st rs sr h īX;(let⟨a,vs,rfl,ha,ra⟩:=ċQ);refine wpS_bind (wpS_get ?_);exact(Z,bv,aK,Će,bG,h1);by_cases z:i=j;rename_i ws e;unfold cC;rw[this];(cases h1);exact ih;subst b_;refine wpAny_bind (wpAny_rule ?_);rcases ùi m with m|m;(let⟨t',rfl⟩:=ry);(.exact I _ Ų);by_cases e:āZ;(rw[ğ];rfl);rw[z]at h1;exact Ăh;unfold lV;(cases ry);subst ey;unfold K;(exact λdl H2 ut e2 s r=>h dl H2 ut Ă8 s r);(cases z2;done);(rw[čA q]at h;cases h);rw[<-ĜR,<-ĜS];(subst ex;obtain rfl:u=þe:=rx);exact(show False from r).elim;intro ak s Y H xs ws Q I r aP;(let⟨vs,hs,rv⟩:=a_ sr e ha);(all_goals ext dr);(let⟨i,j,rfl,rfl,q⟩:=gB h);(cases(show u=þe from rx));refine cZ (Ċd) Ċd;rw[decide_eq_true_iff];intro ak s Y H R I h;(split<;>(ext aw));by_cases vY:g ay;dsimp only at h1;exact hq.elim;rw[z1,z2]at h;(push_cast;rfl);exact þz hq;(exact λq=>q);(cases r;rfl);(cases this);rfl;(have:=bu e);(have:=x1.1);refine ĥw;rename_i e;rw[û4,ha];exact ċ';exact ċ;exact ù3;unfold i?;(refine go Z O st rs sr h λd aK bv H1 x e1 bG r1 h1=>?_);refine wpS_bind (wpS_lift (wpAny_rule Ēn));(let⟨o',e1⟩:=ĜB b o q ēn);exact trivial;(let⟨e,n,ne,nf,d⟩:=üM p hp);(let⟨s1,b_⟩:=NE (ĔI));apply Array.toList_inj.mp;(let⟨v,r,rfl,h2,h3⟩:=h.bA);refine wpS_bind (dY ey ?_);intro bi ay H' e sr g i;(let⟨a,rfl,ha⟩:=r.cY);rw[beq_self_eq_true];(exact λq=>ąw);(let⟨k,rfl⟩:=h);by_cases z:üV;(have e:b=it:=Ćl);simpa using this;by_cases hb:b=a;intro Y H R aP;rw[if_neg Ĉ];unfold i? at e;exact h3.elim;intro z ay Pf;(cases ha;done);split at h2;unfold forL;rename_i z;(rw[ih];rfl);exact ùh;exact ıd;rw[ţ m];unfold c5;unfold qF;unfold wV;(refine wpAny_bind (wpAny_isInstance (ob,hb,U2) isSubtype_tuple_tuple ?_);refine wpAny_bind (wpAny_tupleItemsOf ha U1 (wpAny_bind (wpAny_tupleItemsOf hb jY ?_)));refine ăC);(first|refine wpAny_bind (wpAny_typeNameOfWhole_keyiter T üI)|refine wpAny_bind (wpAny_typeNameOf_keyiter T üI));(let⟨a2,cP,ys,rfl,p2,vb,rb⟩:=s2;cases e;rcases s1 with⟨_,rfl⟩|⟨k,_,rfl⟩|⟨k,t,_,rfl⟩|⟨k,t,_,rfl⟩);(let⟨i,i1,i2,i3⟩:=bz (þm hx);let⟨j,j1,j2,j3⟩:=bz (þm hy));(cases e;rcases s2 with⟨_,rfl⟩|⟨k,_,rfl⟩|⟨k,t,_,rfl⟩|⟨k,t,_,rfl⟩);(rw[e];have zY:ĐQ:=by rw[<-Ĩ,pY.length_eq,Ĩ]);(let⟨a2,cP,ys,rfl,p2,vb,rb⟩:=s2;exact refs a a2 rfl rfl);(let⟨i,i1,i2,i3⟩:=bz hx;let⟨j,j1,j2,j3⟩:=bz hy);(rename_i aA e;let⟨l,hl,p⟩:=ûy n _ a e ha);refine wpAny_bind (wpAny_field he hd h1 ?_);exact absurd (show ğm from fx) Ăh;(rw[ýR];refine wpS_bind (ask ø ?_));(subst e;exact I1.CF ě ń3);(let⟨o',e1⟩:=ĜB b o e hx);(have l1:úw=Ăe:=by rw[b_,Ď];rfl);refine wpS_bind (HK C hS ø ø ?_);(let⟨u,rfl,ru⟩:=vals1 r;cases ru);(have x2:ĒZ:=ĺu);(let⟨a2,cP,ys,rfl,p2,vb,rb⟩:=s2);(let⟨z,hd,vs,rel,dd⟩:=oP I.bE e);((let⟨_,_,z2,_⟩:=ą3;ext bb));(.rw[if_neg vY]at hq;ext br);(let⟨a,aE,xs,rfl,p1,va,ra⟩:=s1);(let⟨v,o,ho,hd⟩:=ùG x c e);(rw[h!]at h;by_cases z:c'=c/\x'=x);((let⟨_,z2,_⟩:=r2.cY;ext bb));(exact(_,rfl,(λe=>ād),h));(let⟨z,aE,n,r,hl,e⟩:=I.GR hH);(cases u<;>cases w<;>try ext u);(let⟨_,_,_,_,o,_,_,e,_⟩:=x);(let⟨a,vs,rfl,ha,ra⟩:=r.gj);(let⟨i,j,rfl,rfl,h0⟩:=gB h);rw[Ą,Ļ1]at nd;(cases(show u=ü2 b from ry));((ext ge;ext bb));((ext oA;ext bb));((ext gf;ext bb));((ext gg;ext bb));(.rw[ĜV]at h1;ext s);(let⟨Z,O,st,rs,sr,h⟩:=h);rcases ŏ hc with rfl|hc;(unfold j9 at e;split at e);exact beq_self_eq_true _;exact SeqAt.EqAt.same _;intro wh ak s Y H Q I h;(let⟨m,hn,hl⟩:=úV);(let⟨pr1,pr2⟩:=gw hp);(unfold nV;rw[Ŋ];rfl);intro x z ay _ hx aP;rcases hd with q'|q';rfl;exact absurd rfl ne;simp only[iM,z]at h;exact absurd q Ăh;revert o' i' eo ei;(let⟨h1,h2⟩:=h);rcases q with q|q;(.exact xi d _ q');dsimp only at h';dsimp only at h2;(have:lo=hi:=ø);rw[sizeLine_eq];(split<;>trivial);(unfold gu;rw[h]);by_cases e:a=b;by_cases e:i=j;by_cases z:ċ_;exact e.symm;exact š _ hb;rwa [this]at q;unfold ar at h;(.exact tr _ r);intro z ay Hm;intro z ay yU;rename_i aA e;simpa using e;rename_i ws;rw[hn]at h2;rw[øO]at h;(split<;>rfl);(have:=x2.1);(have:=x3.1);kernel_rfl;rintro rfl;rw[z]at eq;rw[zk]at h;(unfold v8 at this;simp only[ĂO,if_false,ČV,decide_eq_false_iff_not]at this);(let⟨_,a',o,aE,n,ea,ho,hc,hd,hi⟩:=h1;let⟨_,b',o2,cP,n2,eb,oG,tD,hd2,Cv⟩:=h2;cases ea;cases eb);(unfold v8 at this;simp only[ĂO,if_false,Bool.not_eq_false',decide_eq_true_eq]at this);(rw[show jW f v (Ĕl::r)=(if k=f then ĉd::r else Ĕl::jW f v r)from rfl];by_cases hk:k=f);(.refine cX (N:=ĜI) (k:=1) rfl rfl ăy ?_ ?_ ?_ ?_<;>intros<;>trivial);(cases rx;cases ry;let⟨aE,r1,p1,_⟩:=ø' ha;let⟨cP,r2,p2,_⟩:=ø' hb);(have IW:∀b o,ćg->ÿy:=λb o e=>ĸ2);(have l1:=va.length;have l2:=vb.length;have l3:=Ąv;have l4:=Ġ9);(injection hz with hz1 hz2;cases hz1;refine ľe);(unfold v8 at this;simp only[if_true,decide_eq_false_iff_not]at this);(let⟨r1,r2⟩:=yU;let⟨hr,rfl,x',y',sG,oV,hz,hx,hy,hl,hs⟩:=yV);(let⟨u,v⟩:=aP;let⟨hr,rfl,x',y',sG,oV,hz,hx,hy,hl,hs⟩:=oH);(refine go Z bv aK ÿT bG h1 λk bP dl H2 y e2 m9 r2 h2=>?_);(unfold v8 at this;simp only[if_true,decide_eq_true_eq]at this);(let⟨hh,g,dr,t,os⟩:=s;have L0:=EV (M:=ĀT) hx hc);rcases g with⟨aA,k,e,ey,l⟩|⟨aA,k,b,e,ey,eb,l⟩;(let⟨aE,r',pl,hz⟩:=I.list hq;have hlen:=Ġ8);refine wpAny_Call_Name_kw (kP I hg hm hv ?_ hn jY);refine wpAny_bind (wpAny_dictEntries go gd ?_);refine wpAny_Call_Name_kw (mL I hg hm ?_ jY);refine wpAny_bind (wpAny_dictEpoch go gd ?_);(let⟨sl,e1⟩:=ăR b o e n hb hx);(rw[Ĥr,úu];rfl);(let⟨o',e1⟩:=ĜB b o q hx);(have hp:Ŀ<ù6:=Nat.pow_lt_pow_right ø (Ćf v));exact Nat.le_add_right _ _;(exact letGo I8 λs9 I9=>(_,H8,I9,q8));intro ak s Y H x vs v us Q I rx rv h;(let⟨u,rfl,ru⟩:=ba.one r;cases ru);(unfold iu;rw[ĴF,hf]);(have x3:Xt s2 s3:=ĺw);(have x6:Xt s5 s6:=ĺy);(have x7:Xt s6 s7:=ĺA);(let⟨q1,q2⟩:=oX hz.1 r1 hz.2 ra);(let⟨u,rfl,rx⟩:=vals1 r;cases rx);(let⟨z,hd,vs,rel,dd⟩:=Jy I.bE e);(let⟨z,hd,xs,rel,dd⟩:=xw I.bE e);(simp only at hr;subst hr;refine Ăj);(let⟨_,o,ho,_⟩:=I.ok.m8.mem hb);(have Ru:=hm S _ (by simp[U0]) hS);(let⟨f0,f1,f2,f3,f4,f5⟩:=fz);(unfold ûI;rw[d! (np:=4) rfl]);(.refine u? hr.hd ?_<;>trivial);(let⟨c,rfl,q1⟩:=q1;cases r1);(let⟨cg,h1,h2⟩:=zl sr e ha);(cases hk;let⟨vs,h1,_⟩:=kc);(let⟨aE,r',pl,hz⟩:=ø' hq);(let⟨v,l',rfl,r,p'⟩:=p.bA);(let⟨ĳb,hi⟩:=st);(let⟨s2,cO⟩:=NE (s1++üg));exact h1 bv H1 _ Ģ bG rfl;exact hb ak s1 Y H1 Q I1 q1;(let⟨aE,r1,p1,_⟩:=ù8 hs);(let⟨k,hk⟩:=NE (ùN:Nat));(let⟨u,mu,rfl⟩:=mem o MC);(let⟨vs,h,_⟩:=h;exact Čj);(have l:ùT:=by rw[h.1,k.1]);(have sY:∀x∈σ,S x:=ĕl);rcases øI i üU with d|d;refine wpS_bind (dY ex ?_);(rw[decide_eq_false Ĥ2];rfl);by_cases hz:ŀQ;(have z1:=Rl.bK r1;subst z1);(have z1:=Rl.j0 r1;subst z1);(have z1:=Rl.kH r1;subst z1);(have z1:=Rl.vZ r1;subst z1);rcases ŏ mx with rfl|mx;(refine bt (λo=>?_) (Āz));(rw[decide_eq_true Ĥ2];rfl);(with_reducible assumption);(have:=sm rfl;simp at this);injection this with this;(let⟨h1,h2⟩:=hr r ċ);(let⟨hp,g,d,tk,os⟩:=s);(let⟨od,J,hl⟩:=I.look);rcases ŏ hm with e1|hm;rcases ùi hy with hy|hy;rcases ùi mu with mu|mu;(revert mw;revert w;decide);exact wpAny_execs_nil q;(exact λh x=>ih x (h x));intro ak s Y H D EX I h;(let⟨Cl,H8,I8,q8⟩:=q);(rw[z.1,e1]at h1;cases h1);(cases ho;exact GX vs hd);(let⟨o,e⟩:=hfp b hb);(conv=>lhs;unfold forL);(have e':¬ q.1=k:=ĥ9);injection e with e1 _;intro aP rest r s' oH;(let⟨ok,ov,he⟩:=st);rcases h2 with rfl|h2;exact Nat.succ_pos _;exact wpAny_bind Ĥ9;rcases hc with z'|z';rcases hq with hq|hq;(refine ùP λt _=>?_);rw[decide_eq_decide];(rw[tU];unfold nV);(conv=>lhs;unfold aY);exact wpAny_pure hQ;rcases m with rfl|m;(rw[h2]at e2;cases e2);dsimp only at h⊢;(have I1:=I.to x1.n);(let⟨vs,h,r⟩:=h);rw[ąY rw2]at hb;(rw[q]at q';cases q');rw[č,č]at this;by_cases Q6:c=ü;(have z2:=Rl.bK r2);(have z2:=Rl.kH r2);(have z2:=Rl.vZ r2);(rw[bg]at q;cases q);by_cases y:üV;(cases hw;exact hq);(have hd:=h d ċ);refine(t1,t2,?_);rw[z,ĳ]at this;(have hT:ďm:=Ćg);by_cases e:k'=k;by_cases hj:j=i;(cases Ąy<;>rfl);(.ext w;ext c);by_cases e:x=y;intro yU s' yV;rename_i ws hw;rw[č]at this;simp only[Ľ];unfold Rl at h;unfold aQ at h;unfold cA at h;(.exact ĆM oQ);exact þz hq';(have ll:=I.ll);intro z ay K?;intro z ay UR;refine([],?_);rw[<-hk]at em;rw[e2]at this;rename_i c e;rw[Ľ,<-hl];simp at this;unfold bindC;unfold bindL;(refine wpAny_bind (wpAny_callSpecial?_slot ğp ĮG (wpAny_call_entry ĮG ğp F.entry_tuple_iterator_next ?_ (F.args_tuple_iterator_next_1 _)));show wpAny _ _ (field ùV 0 >>= _) _ _ s;refine Īg;refine Īg;refine wpAny_bind (wpAny_seqItems hot dt ?_));(have Td:∀c∈Ĉv,ĒQ:=λc bW=>(hf c ħi).1;have kp:∀c o,c ∉ Ĉv->ġg->h'.get? c=Ă:=λc o bW e=>a6 c o čd čd čd čd e;have xi:∀c o,H c=Ă->c ∉ Ĉv:=λc o e bW=>by rw[Td c bW]at e;ext g);(show wpAny _ _ (field ĈD 2 >>= _) _ _ _;refine wpAny_bind (wpAny_field hz rfl (x:=Ēd) rfl ?_);show wpAny _ _ (field ĈD 3 >>= _) _ _ _;refine wpAny_bind (wpAny_field hz rfl (x:=.ref TI) rfl (wpAny_bind (wpAny_seqItems yQ rfl ?_)));show wpAny _ _ (ĥ5 ĈD >>= _) _ _ _);(clear hlo hhi;refine wpS_bind (wpS_mono (wpS_forRange (I:=λx z ay=>ąZ/\∃lo hi,z=%[none|%[lo|hi]]/\lo<=hi/\hi<=n/\hi-lo+x<=n/\(ęc)/\ėt) (Q:=λz ay=>ąZ/\∃k,z=%[none|%[k|k]]/\k<=n/\(∀i,i<k->Ģj)/\∀i,k<=i->i<n->ĠL) ?_ ?_ (rfl,lo,hi,rfl,g1,g2,ø,g3,g4)) ?_));(refine wpAny_bind (wpAny_attempt (wpAny_callSpecial?_slot T Ī2 (wpAny_call_entry Ī2 T PySem.F.entry_dict_keyiterator_next ?_ (PySem.F.args_dict_keyiterator_next_1 _))));refine Ğf;refine ăC;refine ăC);(refine Ĩ8;rw[Ĩe];show wpAny _ úZ ĭu _ _ s;refine wpAny_bind (wpAny_seqItems hS rfl ?_);show wpAny _ úZ ĩM _ _ s);(have D:ZipApart z TI TO i1 i2 a b:=(ģX,n2.symm,n3.symm,n4.symm,n5,n6,n7,n8,n9,n10,gF sx z Ĉ,gF sx TO Ĉ,gF sx i1 Ĉ,gF sx i2 Ĉ,gF sy z Ĉ,gF sy TO Ĉ,gF sy i1 Ĉ,gF sy i2 Ĉ));(rw[ăc e];refine wpAny_pure (rfl,rfl,x1,y1,T!,vs1,hz2,Us,hy1,hl,?_);rw[ă,ă]at hs);(refine wpAny_bind (ĪV);refine wpAny_bind (wpAny_of_eq (by first|rfl|(simp only[firstArgMember];rfl)) ?_);refine ĪV);(apply E9 (λn=>n-1);exact ù';intro mg;refine wpS_bind (UU _ ?_);refine wpS_bind (dY ey (wpS_bind (mR C hk US ńo ø ø (ua.sub ø ø) ĺW))));(have ww:IsPair wv TO a b:=Ąr _ _ D.TOi1 (Ā3 _ _ D.TOz AA);refine wpAny_bind (wpAny_seqItems ww rfl (wpAny_bind (wpAny_updateSeq_pair ww λxL zn ii=>?_))));(rcases s1 with⟨rfl,rfl⟩|⟨i,rfl,rfl⟩|⟨i,t,rfl,rfl⟩|⟨i,t,rfl,rfl⟩<;>rcases s2 with⟨rfl,rfl⟩|⟨j,rfl,rfl⟩|⟨j,t',rfl,rfl⟩|⟨j,t',rfl,rfl⟩);(have UU:∀(mg:Nat){Q:PUnit->ûS},Q ⟨⟩ (Gs st mg)->wpS û A E s (modify λs:SortSt=>Gs s mg) Q kG:=by intro mg Q q;refine ŀI;rw[e];ext m);(rw[hL];show(match j! ľY đz with|ī=>Ŝ x (ź L (.dK (rT ľY đz)))|none=>bR.bad)=_;rw[hk,mX inj,BQ inj]);(refine W.item i s _ _ hg st λv h' tk hv ay kk=>?_;let⟨t,rfl⟩:=hv;have I1:aG X ak Y H ü1:=ĉz (λb o hb e=>kk b o (Ćl) e) f0 f1 f3 f4 f5);(refine qE _ [] ?_;rw[Ž,ğ];have e:øK ((λp:bF×au=>p.1) ∘ cb b w)=(øK Ģ9).map λ(k:Nat)=>(ûv øF:bF):=ĠN);(have Az:(A.deeper (ċ2)).frames=some ď7:=ĐG;have efs:iu ď7=ĸz::ĈB:=AU rfl outer);(let⟨j,h1,h2,h3,h4,h5⟩:=yF he;let⟨w,ew,AI⟩:=r.get h2;have hl:=úb;have hn:=uj;have fin:EP X ak Y Q w s:=(z,H,I,AI,q));(subst z1;first|ext cY|ext db|ext da|ext cZ);(have W:=Walks.list (prog:=prog) (w:=w) (A:=A.in1) hh I l hI þ_;have hsz:ďd=ų:=by rw[Ľ,ia.length]);(have I1:Ď_:=ĉz (t':=s.toks) (ĖT) f0 f1 f3 f4 f5;let⟨o,e,c,d⟩:=id ay);(have back:∀w:þ,(iE w).map Int.toNat=w:=λw=>by unfold iE;rw[ğ];exact(ùP λe _=>ú6 e).trans (ĐK w));(have gF:∀[1]{l:Vi}{zs:ķ},ĻR->∀c∈Ď8,l≠c:=λ{b l zs}hs c bW=>I.Q5 hs Đs);(intro value slice ak s Y H x y v u Q I rx ry h hs;let⟨p,xs,i,z,rfl,rfl,hq,he,q⟩:=h;cases rx;let⟨t,rfl⟩:=ry);(rw[zb]at hw;intro u8 H4 wP e4 uP De;exact(wE,u8,sE,r,(e'.trans e1).trans e4,De,uP,hw,ē1 hq Ě3));(rw[zb]at h';intro u8 H4 wP e4 uP De;exact(ø,wE,u8,sE,ĘE e4,De,uP,ē1 h' Ġd));(rcases ha with ha|ha<;>first|ext cf|(ext fZ;exact(vs,Ā5,r.1,aZ.mono e _ _ r.2)));(rintro Y H Q ⟨Z,O,st,rs,sr,h⟩;exact go Z O st rs sr h λus aK bv H1 xs e1 bG r1 h1=>(bv,aK,us,bG,r1,h1));(rw[e]at e';cases e';rw[d]at d';injection d' with d1 _;have:aE=its':=by simpa using congrArg Array.toList d1);(rw[ed]at this;replace this:R (.ok (.ret (.int (Dy (if n>M then n else M) (ēT (j+1))) t'))) _:=this);(refine codeAny_builtin u5 ?_;rw[ĳD km _];show wpAny _ úZ (pyNext ùV >>= _) _ _ s);(refine wpS_bind (dY ex (wpS_bind (mR C hk UT (US x1 mx) ø ø (ub.sub ø ø) λj j1 j2 j3=>?_))));(.ext gE;ext b;let⟨āg,m,y,rfl,gd⟩:=UR;ext a;rw[e];exact wpS_pure (h m g gd));(let⟨u,u2,rfl,ru,Tf⟩:=vals2 r;cases ru;cases Tf);rw[č3,č3,ĳL,ĳL,<-Į];(simp only[sliceBounds,üG,Option.getD_none,show ÿw>0 by decide,if_true];by_cases h:i<0);(.ext d;refine wpS_bind (wpS_modify (wpS_pure ((mg+1,?_),_,_,_,_,rfl,m,l1,l2,ø)));rw[e]);(refine(_,KatTups.cons ho hc hd rfl k,Ěj,λv mv=>?_);rcases ŏ mv with rfl|mv);refine wpAny_bind (seqEpoch_at ho6 rfl (wpAny_bind (listUpdate_at ho6 rfl ?_ ûH ?_)));refine wpS_bind (dY ey (wpS_bind (dY ez (wpS_bind (lt_ C Pg ńo (US z mz) ?_)))));(intro h;apply ĘK;intro i;have hi:=congrArg (λz=>Nat.testBit z i) h);(let⟨_,a,o,aE,n,rfl,ho,hc,hd,hi⟩:=h1;let⟨_,b,o2,cP,n2,rfl,oG,tD,hd2,Cv⟩:=h2);(rw[zb]at hw;cases hw;exact λu8 H4 wP e4 uP De=>hq u8 H4 wP Ě3 uP De);(rw[e];refine ĸb _ (λa c ne z=>ne ?_) nd;injection z with z);(let⟨o,ho,hc,hf⟩:=id hit;let⟨od,go,gc,gd⟩:=id x;have T:=ğp);(.rw[üx];exact wpS_pure (rfl,l,o,rfl,h2,h3,h4,ĸ_));(exact wpS_pure (rfl,lo,_,rfl,ø,ø,ø,h4,λi q q2=>hi_ _ i q q2 d));(exact wpS_pure (rfl,_,hi,rfl,ø,h2,ø,λi q=>lo_ i _ ø ø d,h5));(rw[e3]at h3;exact List.Pairwise.of_map iE (λa c z e=>z ŁH) h3);(rw[zb]at h';exact λu8 H4 wP e4 uP De=>h' u8 H4 wP Ġd uP De);(rw[h];show(if uR s1 Ħ=true then ę3 else .bad)=_;rw[if_pos (by unfold uR;ext d;rw[hn]),h2]);(unfold ĥ5;refine wpAny_bind (wpAny_field hz rfl (x:=ė) rfl üI);simp only[if_true]);(have:=of_decide_eq_false (ĆS:decide (K r X Ċt<K r X (lo+x-1))=false));(have Lg:(toString "max" ++ toString ".loop":String) = "max.loop":=øi);(let⟨_,_,p2,_⟩:=ù8 hw;exact SeqAt.ne_of_list_tuple p2.isList p1 rfl);(refine(a,vs,rfl,ģj,į2,q1,?_);rw[q2];exact ù3);(rw[show aE.toArray.any Ċr=aE.any Ċr by simp,yI r fs];exact q);(have h1:=h e ċ;have h2:=ih ľx;rw[ĀA,ă,ŅM]);(have h3:=lI S.Qq;have e3:(þx þI)=(Ēu).map iE:=by rw[ğ];rfl);(have hl:Ľh<=sizeLine:=by have:=kS aA k v;ext c);(.exact ģ (Nat.succ_le_succ l1) (Nat.add_le_add_left m0.1 lo));(let⟨u,rfl,r1⟩:=vals1 rx;let⟨z,rfl,r2⟩:=vals1 rz;cases r1);(refine go Z bv aK ÿT bG h1 λus bP dl H2 xs e2 m9 r2 h2=>?_);(let⟨v1,r1,rfl,q1,rv⟩:=rv.bA;let⟨v2,r2,rfl,q2,rv⟩:=rv.bA);(let⟨j,_,_,j3⟩:=bz hx;exact hS x (Array.mem_of_getElem? j3));(refine JZ Z bv aK ÿT bG h1 λd bP dl H2 x e2 m9 r2 h2=>?_);(refine go Z bv aK ÿT bG h1 λw bP dl H2 y e2 m9 r2 h2=>?_);(let⟨C,h1,h2⟩:=h;exact(C,h1,λdl H2 e2 s=>h2 dl H2 Ă8 s));obtain⟨x,rfl⟩:∃x,e=[x]:=įo he;(.let⟨_,_,_,_,o,_,_,e,ex,_⟩:=I.bE p _ hk;exact(o,e,ex));rfl;(.let⟨sl,e1⟩:=slot b o q Ěp hb;exact ģb);(have he:Ĺa:=let⟨q,_,_,hq,_⟩:=N2;(q,hq));(let⟨aE,rv,p,_⟩:=I.sqx sx;let⟨cP,rv2,p2,_⟩:=I.sqx sy);obtain⟨x1,x2,x3,rfl⟩:∃x1 x2 x3,e=[x1,x2,x3]:=Dp he;(refine xC hc B hg Tb he I2 T bP f2 hW ?_;intro acc C s' aP);(rw[e];exact(Ŀz f.1,įr f.2));(rw[ŃY]at e2;let⟨u',r',q⟩:=hl j y v' e1 e2 e3);rfl;(have JJ:tn 0 h₁:=ĊG 0 _ _ st λb _ o e=>old b o e);(.rw[if_pos hj]at h0;exact(i,j,ùK,ùL,hj,bQ sr h0));(let⟨oi,Q4,ci,di⟩:=id hit;let⟨ot,hot,_,nt,dt⟩:=ht);(refine((o,e,ex.1),λa e2=>?_);cases e2;exact(o,e,ex.2.1));rfl;(.have:=ŉ e;rw[e1]at this;exact Ŀ1 _ this);(have s1:=seen I sr r1 q1 z1;have s2:=seen I sr r2 q2 z2);(have:=of_decide_eq_false (ĆS:decide (r y<r z)=false));(let⟨wn,H3,I3,n3⟩:=q3;let⟨m',hm,w3⟩:=hN wn H3 n3);(subst hj;rw[hi]at e1;cases e1;rw[ő aa_]at e2;cases e2);(let⟨oc,od,kV,doc,pm,an,d5,ct,IJ,rfl,lk,AF⟩:=F.ex);rcases cJ hv with⟨j,u,rfl,rfl⟩|⟨y,u,rfl,rfl⟩;(have I2:aG X ak Y H1 ķo:=ĝI kp);intro ak s Y H x v vl vu lo hi sl Q I rx hs pl pu h;refine wpAny_bind (wpAny_letGo (wpAny_pure (ĕJ)));(rw[<-lX];unfold Fn;rw[List.mem_filter,Ğn]);(.exact ċF (_F.lg (ċE e2 h2) (ċE e1 h1)));(have nA:Ēv:=by rw[hA];exact zR P [] þl);(let⟨it,fp,tn,J,H2,e,I2,T,bP,f2,hW⟩:=v4;subst e);rcases cJ hb with⟨j,u,rfl,e⟩|⟨y,u,rfl,e⟩;(rw[List.getElem?_range hi]at hu;exact(ùQ hu).symm);(let⟨l,b,xs,zs,rfl,rfl,hH,hB,hz,q⟩:=h;cases rx);(let⟨w,e',a,oe,C,rfl,hp,hC,ho⟩:=rs.at_ i _ e);obtain⟨x1,x2,rfl⟩:∃x1 x2,e=[x1,x2]:=wj he;refine wpAny_bind (wpAny_pure (wpAny_throw ?_));refine wpAny_bind (wpAny_setField ho hf Ĉ ?_);(show forL gd _ _ [] _ s=_;unfold forL;rw[û4];rfl);exact wpS_pure (rfl,o,2*o+1,rfl,ø,ø,ø,d);exact ýy W.kitx_dict I.nT (o,h1,h2.1) e ûU h;(have oQ:l<ü:=by let⟨_,e,_⟩:=id hl;ext J);rcases h1 with h1|⟨T,oT,ts,h1,ne,hT,dT,h3⟩;rcases(hs) with(r|⟨o,r⟩)|⟨o,aE,n,hk,_⟩;refine wpAny_bind (wpAny_notOrdered_dict T ?_);(rw[Į]at e2;subst b_;exact ĵ3);exact ýy W.kitx_list I.nT (_,h1,rfl) e ûU h;exact ýy W.kitx_tuple I.nT (o,h1,h2) e ûU h;(exact wpS_pure (rfl,l,o,rfl,h2,h3,h4,λ_=>d));(let⟨o,h1,h2,h3⟩:=(x);exact(o,_,_,h1,h2,h3));rw[ü0,Ćt,aL,e2,ČU,List.reverse_singleton];(have I5':=I5.pinned (CI fr5) (ċs _ _ Sg));(have m:=h.me;rw[cE ø hk ě]at m;rw[ü0,aL]);(have nil:∀b:Vi,b ∉ (Ăk).ex:=λb z=>Ćj);(let⟨e,x0,x1,he,p0,p1,r0,r1,hM,b0,b1⟩:=h);(let⟨n1,n2,n3,n4,n5,n6,n7,n8,n9,n10⟩:=ne);refine wpAny_bind (wpAny_fieldsOf ho hf ?_);(.ext hu;exact rK I.nT he e (Ż,H,I,rfl,q));(refine(hi,Ğj);let⟨rfl,rfl⟩:=y);(simp only at hc hd tD hd2;subst hc hd tD hd2);(exact λdl H2 v e2 s r=>h dl H2 v Ă8 s r);(exact λdl H2 x e2 s r=>h dl H2 x Ă8 s r);(let⟨m,⟨o,es,ep,ho,r⟩,_⟩:=id I.loc);refine wpAny_pure (plainId_quiet km _,?_);replace rH:IsZip Da z TI TO Ċe:=rH;rw[decide_eq_false (by rw[ne];simp)]at Mr;(rw[hf]at g;rw[show t.2=u.2 from g.symm];rfl);simp only[bne_self_eq_false,ĂO,if_false];(have eg:ČI=ėw:=by rw[hA];exact zS P []);(let⟨wr,H7,I7,n7⟩:=q7;exact again I7 n7);(rw[ho]at vX;cases vX;exact(_,M?,ep',hL,r'));rw[ă,show k+(ĉ+1)=k+1+ĉ by ext c];(.rw[ů]at h;exact ih c x b C D h e1 e2);(have Pg:kindOf bP=κ:=by rw[e];exact hk);(have:x≠n:=by ext dV;exact h v ċ);(rw[Ĺ4]at hq;unfold aY at hq);(.rw[ů]at h;exact ih x cv hx c C h e1);exact fW (v:=ÿW) hg rfl rfl ŀ ih;(have he:=(I.pin %[ea|oe] łq).1);intro ak s Y H xs zs us ws Q I rx rz h;(unfold Li at h1 h2⊢;rw[ČV]at h1 h2⊢);(.subst hb;rw[bg]at e;ext g;exact new);(let⟨hz,yQ,ńf,h1,h2⟩:=st);exact wpS_pure (rfl,lo,rfl,h2,h4,h5);exact ŉ (show øJ a=ąy from x);(let⟨vs,rel,Cw,hl⟩:=Lu ho I.bE hd);(let⟨y,ey,my,ky⟩:=at_of (r:=r) l2);refine wpAny_bind (wpAny_handled ?_);refine wpS_bind (HK C sY ø ø ?_);(rw[hcc];show(if i<Ř then _ else _)=_);(have x11:Xt yf D5:=by rw[z_];ext O);intro j xs s hj hq hk hit hdo hz hR;(let⟨z2,cP,n2,r2,Jr,e2⟩:=I.GR hB);(.exact wpS_pure ((g,e),_,_,rfl,gd));(let⟨vs,hH,rv⟩:=ûy n _ a hw ha);(let⟨xs,h1,q1⟩:=ûy n _ a e1 ha);(.rw[if_neg hj]at h0;exact h0.elim);(.rw[if_neg vY]at h';exact h'.elim);(.simp only[h,if_false]<;>(ext aw));(cases q;let⟨ob,_,_,h1,h2,_⟩:=dd);exact wpAny_bind (wpAny_pure Ĥ9);(exact λz h1 h2=>ih _ (z _) h1 h2);(let⟨O,st,u1,w1,sr,r1,r2,h⟩:=h);(let⟨a,b,e,c,rfl,rfl,ha,hb⟩:=h);(let⟨gk,gx⟩:=g;subst e1;subst q4);(let⟨mA,ρ,r,_,_,_⟩:=tw I.bE e);(let⟨o,e,d⟩:=ċs _ _ Sg b hb);(let⟨r',mr',e⟩:=Ĕ this;rw[<-e]);(let⟨u,r,l⟩:=hl i x v e1 e2 e3);(let⟨u,rfl,r1⟩:=vals1 r;cases r1);(let⟨vs,h1,h2⟩:=ûy n _ a e ha);(rw[<-hlo,<-hhi];have g1:lo<=hi:=ø);(rw[e];exact wpS_pure (h k h1 h2 h3));(unfold i?;simp only[vw,a! ha,a! hb]);(.simp only[h,if_true]<;>(ext aw));(let⟨g,e⟩:=iX hp s;refine Ĕc);rcases I.ok.Nm with e|⟨e,hf⟩;(refine bt (λt=>?_) ğ9;split);(let⟨Z,O,us,bn,rs,r,e,q⟩:=aP);(let⟨_,⟨_,_,_,e,_⟩,_⟩:=x);(let⟨a',ea,hb⟩:=r2.cY;cases ea);(let⟨t,e⟩:=(show Ė1 from r));(let⟨t,e⟩:=(show ČY from r));rcases h with rfl|⟨q,rfl,h⟩;(unfold Good;rw[ü0,ü0,Ćt,aL,aL]);(.exact wpS_pure (e,_,_,rfl,gd));exact hb wh ak s1 Y H1 Q I1 q1;(have k2:=pN (b:=b) (w:=v+1) mt);intro j s M t c hk hj st hS hR;(let⟨B,t,fl,hn,go⟩:=J.slots);(let⟨W,ņ8,turn⟩:=h);(let⟨Z,O,u,bn,rs,r,e,q⟩:=aP);(let⟨a,rfl,ia⟩:=EU bG r1 hd);(let⟨fa,fd,ps,F,hm,kp,b⟩:=G);(let⟨p,vs,rfl,hp,rp⟩:=ċQ);(let⟨v',l',rfl,r',p'⟩:=p.bA);obtain rfl:gs=[]:=ĥP h.1.symm;refine wpAny_bind (ly.here ?_);rw[Ē4,if_pos (by rw[y])];(rw[z1,z2]at e;cases k1<;>cases e);(have bd:=yd W hm hv I.oT m mx);(have mw:=øC hw;have mr:=øC hr);(let⟨c,hc,kc⟩:=sr.there ha);(let⟨os,hos,NL,hds⟩:=id hs);(let⟨u,rfl,t,rfl⟩:=vals1 r);(let⟨ux,eux,rx⟩:=rv.get ex);refine wpAny_bind (gt_int ?_);(rw[ü4 hi]at hq;unfold aY at hq);(simp at h1 h2;subst h1;subst h2);(have e:=úb;simp only[Ĩ]at e);(have el:=J9 e ra rb va vb ih);intro ak s Y H vs us Q I r h;(let⟨A,hA⟩:=NE (gat P []));(let⟨B,t,fl,ct,cs⟩:=μ.fl);(let⟨o',M?,ep',vX,r'⟩:=hm);(let⟨o,vs,h,_⟩:=h;exact Čj);(let⟨v,o,ho,_⟩:=ùG x c e);refine List.filter_congr üa;rw[List.any_map,ćc,ĆR,ĆR];(rw[if_neg hl]at q;exact ąw);(have hb:(g==k)=false:=ú2 h);(let⟨aE,r,pl,hz⟩:=ø' hq);(let⟨aE,r,pl,hz⟩:=ù8 hq);(let⟨aE,r1,p1,_⟩:=ø' ha);(let⟨aE,rv,p,hz⟩:=ø' hq);(let⟨aE,rv,p,hz⟩:=ù8 hq);(let⟨h1,h2⟩:=Jp I1 r1 ty);(let⟨i,x,e1,e2⟩:=wi w mw);(let⟨u,hu,ru⟩:=rv.get hx);(let⟨v,hv,ru⟩:=rv.get hu);(let⟨v,r,rfl,_,h3⟩:=h.bA);(let⟨w,mw,e1,_⟩:=mr u mu);refine wpAny_truthy_bool ?_;(unfold Good;rw[ü0,ü0,aL,aL]);generalize eo:UW.push y=o';(have hb:(g==k)=true:=ăc h);(let⟨C,f,fd,n,a,i,F⟩:=M);(let⟨a,ns,rfl,hs,q⟩:=aP);(let⟨aE,rv,p,_⟩:=ù8 sx);(let⟨j,j1,j2,j3⟩:=bz hy);rcases hm with rfl|rfl|rfl;rcases øI j üU with c|c;refine wpS_bind (dY e0 ?_);refine wpS_bind (dY ez ?_);(rw[<-sr.len,Ĥr,úu];rfl);rw[List.find?_eq_none]at z;rw[decide_eq_true ne]at Mr;(rw[Ą,Ą];refine Ċ ?_ ih);(.exact absurd ġG Ėk);(.rw[if_neg h1]at h;ext e);exact h O _ _ k1 k2 Rl.AX;(have la:=h.la;have lb:=h.lb);(have ma:=m.la;have mb:=m.lb);(let⟨a,aA,rfl,ha,q⟩:=h);(let⟨a,vs,h1,h2,h3⟩:=h);(let⟨i,j,rfl,rfl,q⟩:=h);(let⟨k,h1,h2⟩:=vq ms m);(let⟨ol,hol,Rw⟩:=id hl);(let⟨p,ys,rfl,hq,q⟩:=h);(let⟨t1,t2,_⟩:=C1 I1 d);(let⟨u,mu,rfl⟩:=Ĕ mh);(let⟨u,rfl,ru⟩:=rv.one);(let⟨z,hz,rfl⟩:=Ĕ hx);rcases øI n øu with q|q;rcases øI n ē with q|q;rcases ŏ hb with rfl|hb;rcases ŏ mu with rfl|mu;(have tz:Ā_ ĈD "zip":=(_,hz,rfl));(have e':b=a:=hA b (ĎK);subst e');(have hf:H1 Œ=none:=ėN ě);(.rw[Ā9]at hl;ext gU;ext c);(rcases em' with e|e;exact ÿF);(rw[ă0]at h1;refine(ħv,øL));(intro z;rcases ĪA with e|e);rcases øI j ă2 with q|q;intro pos ak s Y H Q I h;(let⟨a,rfl,ha⟩:=r2.cY);(let⟨a,rfl,ha⟩:=rd.cY);(let⟨mj,nj,l5,l6⟩:=K?);(let⟨r,mr,rfl⟩:=Ĕ m);(let⟨u,mu,rfl⟩:=Ĕ m);(let⟨v,rfl,rv⟩:=r1.uH);(let⟨y,rfl,ry⟩:=r2.uH);rcases ùi hu with hu|hu;rcases ùi hx with hx|hx;rcases ùi mr with mr|mr;rcases ùi mt with mt|mt;(have e:Ęl=ĕ*ďH:=ĥy);intro c x b C D h e1 e2;(let⟨e1,e2⟩:=þE h.1);(let⟨h1,h2⟩:=h r ċ);(let⟨o,_,_,_,e,_⟩:=x);(let⟨xs,x,hq,hx⟩:=hg);refine wpAny_bind (čI);(rw[<-ţ mb,<-y];exact ma);(rw[r];first|ext K|ext ex);(.rw[q'];exact xi c o e);(.show 1*x+0<=20;ext c);intro bi ay H' e s g i;intro bv H1 x e1 bG r1;intro x cv hx c C h e1;intro x' z bP _ hx' oH;intro x' z kG _ hx' yV;(let⟨c,h1,h2⟩:=mT h);(let⟨p,hp,e⟩:=Ĕ h);(let⟨q4,q5⟩:=þE q1);rcases ŏ hm with z|z;rcases ŏ hx with e|e;(rename_i k;cases k<;>rfl);(rw[l];exact(Ĉw).getD rd);(with_unfolding_all rfl);(.exact h.ob x hx y hy);(.exact u1 i j a1 a2 c);(.exact u2 i j d a2 a3);(.rw[z,Bi ě,ń,Ž]);(.simp at hb⊢;ext c);exact uY.le a ø ø;(have Ni:Xt s9 yf:=Ĭ_);(have x4:Xt s3 s4:=ĭa);(have x5:Xt s4 s5:=Ĭ');(have z':ħ1:=z;cases z');(have:=F9.ls;have:=F9.st);intro ak s Y H Q I hq;intro ak s Y H Q I hw;intro ws vs b h1 h2 e;(let⟨F,hF⟩:=NE ē);(let⟨_,_,_,_,e⟩:=x);(let⟨_,_,_,e,_⟩:=x);(let⟨e,he⟩:=NE ĂI);(let⟨k,tk⟩:=t v mv);(let⟨xs,hq,hx⟩:=hg);rcases hc with rfl|hc;rcases pJ hz with q|q;rcases ùi h with h|h;(rw[ew];exact(mP w mw).2);simp[sliceBounds,üG];(.rw[üo,üo,Ŋ];rfl);(.rw[ů,ů,Ŋ];rfl);by_cases q:lo ≥ hi;exact h t h' tk hold;generalize eo:out=o';(let⟨_,_,_,q⟩:=hs);(let⟨a,rfl,ha⟩:=h);(let⟨o,e,c,d⟩:=st);(let⟨o,vs,h,r⟩:=h);(let⟨r1,r2⟩:=gw h);(refine ùP λp _=>?_);rw[ün,if_neg (ĥ9)];(rw[ün]at hl;rw[ċ0]);rw[Ā9,if_pos (ėg)];simp only[IM,z]at h3;simp only[T5,z]at h1;simp only[uN,z]at h1;(.rw[ĜV]at h;ext u);by_cases hl:ĉ=ûi;exact wpAny_pure hc;(have I3:=I2.to x3.n);(have z:=ùs z;cases z);intro Y H Q aP p hp;(let⟨C,h1,h2⟩:=h);(let⟨_,_,_,e⟩:=x);(let⟨i,rfl,q⟩:=h);(let⟨l,hl,_⟩:=kc);rw[øO,øO,ğ,ğ];simp only[vw,z]at h;(.exact h i j a b q);(all_goals (ext Q));exact wpAny_pure q;(have e':q.1=k:=ėg);(have g2:hi<=n:=ø);(have:=k3 k ě ø);injection y with y;(let⟨t,rfl⟩:=r2);rcases he with z|z;rename_i a c q1 q2;rfl;rintro⟨p,hp,e⟩;rintro⟨t,mt,q⟩;(rw[e1]at vX;cases vX);(rw[hl]at z';cases z');simp only[if_true];simp only[Ęp,hb'];unfold kindOf at h;unfold start at h2;(cases Ob;simp at ce);(cases x<;>try rfl);exact h.sum hm hv;rfl;exact k a _ út e;exact īo _ _ _ _;exact ľ Ĭ Ĭ;exact ģ Ĭ Ĭ;exact Āw Ĭ Ĭ;exact Č_ Ĭ Ĭ;(have e:b=Œ:=Ćl);(have ga:=vh (ěX));(have z2:=Rl.j0 r2);intro vs Y H Q aP;intro ys zs h1 h2;(let⟨l,rfl⟩:=g);(let⟨rfl,y⟩:=y);(let⟨us,g⟩:=pr);rcases h with h|h;rw[evalPart_none];rw[if_pos h1]at h;(rw[z]at e1;cases e1);(rw[z]at hu;cases hu);(rw[Ĺ]at r;cases r);simp only[ú6,hx];unfold KV at r⊢;unfold forL at h';(unfold sM;rw[z1,z2]);(unfold wx T5;rw[hk])
def y_A(h:True:=by left):True:=h
def y_B(h:True:=by decide):True:=h
def y_C(h:True:=by intro _;rfl):True:=h
def y_D(h:True:=by rfl):True:=h
def y_E(h:True:=by exact ú5):True:=h
def y_F(h:True:=by exact(rfl,rfl,rfl,rfl)):True:=h
def y_G(h:True:=by decide +kernel):True:=h
def y_H(h:True:=by right):True:=h
def NE(e:α):∃x,x=e:=(e,rfl)
def Za(e:α):∃x,e=x:=(e,rfl)
abbrev U!:=ĴT
abbrev U?:=Ģa
abbrev U':=Ĺ2
abbrev Va:=W.Frag
abbrev Vb:=List Int
abbrev Vc:=List Value
abbrev Vd:=Ęo
abbrev Ve:=List Addr
abbrev Vf:=ĉC
abbrev Vg:=Value
abbrev Vh:=Shared
abbrev Vi:=Addr
abbrev Vj:=Around
abbrev Vk:=Program
variable {p v1 u0 u1 g0 g1 v0:Int}
variable {κ α β:Type}
variable {o e tg iter value elt re:Expr}
variable {P:Program}
variable {h h':Heap}
variable {ak Tu:Ĺ2}
variable {t' i j R g v L k1 k2 kt ep aj Wm K1 q0 L0:Nat}
variable {ch fp O bi:List Addr}
variable {it C dx f fa i1 i2 l1 l2 ea c':Addr}
variable {Q:ĴT}
variable {pos pos' Ss apos p2 bw np q1 q2:Pos}
variable {es ifs elts:ûr}
variable {vs aE args:List Value}
variable {op:CmpOp}
variable {mA:Ģa}
variable {name y:Str}
variable {kw:List (Str×Value)}
variable {ds aX cs zs kq:þ}
variable {ks:øs}
variable {doc d5 cls:Value}
variable {an:Option Addr}
variable {IJ:Array (Ęo)}
variable {loose:ĉC}
variable {YP:World->čx}
variable {oe:Obj}
variable [380]
variable {tn:ġ9}
variable {b2:Bool}
variable {cr:Shared}
variable {newId:String}
variable {h₀:ExceptHandler}
variable {hs:ĆY}
variable {wf:Stmt}
variable {iI:úF}
variable {pend:Array ĕ2}
variable {wt:ĄP}
namespace _A
open PySem.Spec PyProof.Rows
abbrev bF:=Sum Int Str
def uc:bF->Vg->Bool
 |Ċy,v=>ŅT k v
 |ý4,v=>Ŀ7 x v
def ady[27]:bF->Int
 |Ċy=>hashInt k
 |ý4=>hashStr w x
theorem cJ:∀{k:bF}{v:Vg},uc k v=true->(∃i t,k=ûv i/\v=đM i t)\/(∃x t,k=Ċl x/\v=ĠD x t)
 |üJ,v,h=>by let⟨t,e⟩:=Value.isInt_shape (k:=i) (v:=v) h;exact .inl (i,t,rfl,e)
 |ý4,v,h=>by let⟨t,e⟩:=Value.isStrOf_shape (x:=x) (v:=v) h;exact .inr (x,t,rfl,e)
def GC[28][197]:uc (üJ) ĈN=true:=by simp[uc,ŅT]
def GD[21][197]:uc (ý4) Łm=true:=by simp[uc,Ŀ7]
def RL(a b:Int):decide (ĝB=ûv b)=(a==b):=by
 ext dC
 .ext l;simp
 .have h:¬ ĝB=ûv b:=λq=>e (Sum.inl.inj q);rw[Ďy];exact(ċ0).symm
def RM(a b:Str):decide (Ěq=Ċl b)=decide (a=b):=by
 ext dC
 .ext l;simp
 .have h:¬ Ěq=Ċl b:=λq=>e (Sum.inr.inj q);rw[Ďy,ĸB]
def RN(a:Int)(b:Str):decide (ĝB=Ċl b)=false:=īP
def RP(a:Str)(b:Int):decide (Ěq=ûv b)=false:=īP
def bS[297][27]:PySem.KeyKind prog w bF where
 is:=uc
 hash:=ady w
 inj:=λv a b ha hb=>by
  rcases cJ ha with⟨i,t,rfl,rfl⟩|⟨x,t,rfl,rfl⟩
  .ext iH
   .ext fI;rw[e1]
   .exact ād
  .ext iH
   .exact ād
   .ext fI;rw[e1]
 byValue:=λk v h=>by rcases cJ h with⟨i,t,rfl,rfl⟩|⟨x,t,rfl,rfl⟩<;>rfl
 pyHash:=λhv h=>by
  rcases cJ hv with⟨i,t,rfl,rfl⟩|⟨x,t,rfl,rfl⟩
  .exact wpAny_pyHash_int h
  .exact wpAny_pyHash_str h
 eqBool:=λhu hv h=>by
  rcases cJ hu with⟨i,t,rfl,rfl⟩|⟨x,t,rfl,rfl⟩
  .ext iz
   .rw[RL]at h;exact wpAny_eqBool_int h
   .rw[RN]at h;exact ęn i t y u _ _ _ _ h
  .ext iz
   .rw[RP]at h;exact ęo x t j u _ _ _ _ h
   .rw[RM]at h;exact wpAny_eqBool_str h
 «strs»:=λk x t v h=>by
  rcases cJ h with⟨i,u,rfl,e⟩|⟨y,u,rfl,e⟩
  .exact ād
  .ext fI;subst e1;cases v<;>rfl
def AD[297][27][28][197]:Ĺq (üJ) ĈN=true:=GC i t
def AE[297][27][21][197]:Ĺq (ý4) Łm=true:=GD x t
inductive V where
 |cq|bl [10]|int [28]|str [21]|byt (b:Array UInt8)|se (b:UInt64)|ref (a:Vi)|ty (n:String)
 deriving DecidableEq
def bh:V->Ģb
 |.cq,u=>u=ăN
 |Ś,u=>u=Đ4 b
 |ĝ,u=>ČY
 |ük,u=>Ė1
 |.byt b,u=>ı6
 |.se b,u=>ı7
 |Ņ,u=>u=þe
 |.ty n,u=>ľc
abbrev ba:ķ->Vc->Prop:=Paired bh
def ba.length[103](r:ùD):į=ĉ:=ăA r
theorem ba.get:∀[103][64]{x:V},ùD->ûk->∃u,Ąb/\ý2
 |_,_,_,_,.nil,e=>by simp at e
 |_,_,0,_,Ċ r _,e=>by simp at e;ext l;exact ĞD
 |_,_,i+1,x,Ċ _ t,e=>by let⟨u,h1,h2⟩:=ba.get (i:=i) (x:=x) t (by ext dN);exact(u,ęL,h2)
theorem ba.append:∀[229]{us ws:Vc},ùD->ba ys ws->ba (xs++ys) Ĉq
 |_,_,_,_,.nil,s=>s
 |_,_,_,_,Ċb,s=>Ċ r (ba.append t s)
theorem ba.take:∀[103][7],ùD->ba (xs.take n) Ŀn
 |_,_,0,_=>.nil
 |_,_,_+1,.nil=>.nil
 |_,_,n+1,Ċb=>Ċ r (ba.take n t)
theorem ba.drop:∀[103][7],ùD->ba (xs.drop n) (āw n)
 |_,_,0,r=>r
 |_,_,_+1,.nil=>.nil
 |_,_,n+1,Ċ _ t=>ba.drop n t
def jU:üm->Vd->Prop
 |Ĥ,Ę=>øn
 |none,none=>True
 |_,_=>False
def KV:ùl->ěV->Prop:=(Paired λ(p:κ×V)(q:κ×Vg)=>p.1=q.1/\bh p.2 q.2)
def kV:bF->V
 |üJ=>ĝ
 |ý4=>ük
inductive HO where
  |lst [71]
  |tup [71]
  |dK (aA:ùU)|dT (aA:ćf)
  |set (S:Ġp) [7]
  |ins (C dx:Vi) (fs:úA)
  |own (x:Vi)
  |xd (fs:úA)
  |met (f x:Vi)
  |rng (lo hi:Int)
  |jl (o:Obj) (u:HO)
  |M9 (ps:Ů)
  |ext (φ:čx)
abbrev Hp:=Vi->Ġw
def upd[79](o:HO):Hp:=(λb=>if b=a then Ă else H b)
def bg{H:Hp}[235]:upd H a o a=Ă:=by unfold upd;ext ae
def aO{H:Hp}[253]{o:HO}(h:b≠a):upd H a o b=H b:=by unfold upd;rw[üo]
def aa8{H:Hp}[253]{o u:HO}(h:āq)(h':ēx)(d:o≠u):a≠b:=by intro e;ext l;rw[h]at h';exact d (ùQ h')
def aS{H:Hp}[253]{o:HO}(h:āq)(h':ŷ):a≠b:=by intro e;ext l;rw[h]at h';cases h'
section
variable(P:Vk)[27]
def cf(H:Hp)[15](a:Vi):HO->Prop
 |ĉX=>ùX/\∃(aE:Vc)(n:Nat),āl/\úW=ĖK
 |ĒI=>ùX/\∃aE:Vc,āl/\IsTup h a ĺ
 |ąg=>ĕz
 |.dT aA=>Ĉj/\ăm/\∃xs:ći,
   Paired (λ(p:ŭ ×V)(q:ŃT)=>Ħ8) aA xs /\
   ∃o es ep,ýJ/\ņp/\ćV/\es.toList=ąb (entryOfKey (čb))/\(ąb ď).Nodup
 |.set S n=>h.SetOf (intKind P w) a S n
 |Ĝt=>H dx=Ĉi/\Ă2<=1000/\dx≠a/\úW=some Ğr /\
   ∃mA,ĝS/\(Ęh)/\ĭz
 |.own _=>∃o,ýJ
 |.xd fs=>∃mA,h.Ns1 a mA/\Ęh
 |.rng lo hi=>∃t u v,úW=some ĕD
 |.jl o u=>ýJ/\cf H h a u
 |.M9 ps=>úW=ėI
 |.met f x=>úW=some (ŅW ú7 ûw)
 |.ext φ=>φ h/\(∃o,ýJ)/\∀h1 h2:Heap,φ h1->(∀o,Ą0 a=Ă->ēQ a=Ă)->φ h2
def jF(H:Hp)[15]:Prop:=(∀a o,āq->ďv)
open e
section
variable[36][242][235]
def cf.lt(x:ďv):a<úG:=by
 cases o with
 |lst xs=>ext ni;ext J
 |tup xs=>let⟨_,_,_,p⟩:=x;exact p.lt
 |dK aA=>ext cT;ext J
 |dT aA=>ext cT;ext J
 |set S n=>ext mz;ext J
 |ins C dx fs=>ext nj;ext J
 |own y=>let⟨_,e⟩:=x;ext J
 |xd fs=>ext kr;ext J
 |rng lo hi=>ext nQ;ext J
 |jl ob u=>let⟨e,_⟩:=x;ext J
 |M9 ps=>ext jI
 |met f y=>ext jI
 |ext φ=>let⟨_,⟨_,e⟩,_⟩:=x;ext J
theorem Paired.RQ{F G:Ĝ5}:∀{Ev:ř}{EE:ģD},Paired F Ev EE->(∀a b,F a b->G a b)->Paired G Ev EE
 |_,_,.nil,_=>.nil
 |_,_,Ċb,f=>Ċ (f _ _ r) (ĠA t f)
def cf.oI(x:ďv)(k:∀b u,(b=a\/H b=Ĉi)->ĕG)(ho:∀b,H b=Ĉi->H' b=Ĉi)(ht:Či):cf P w H' h' a o:=by
 induction o with
 |lst xs=>let⟨z,aE,n,r,e⟩:=x;exact(z,aE,n,r,ûo)
 |tup xs=>let⟨z,aE,r,ob,e,c⟩:=x;exact(z,aE,r,ob,ûo,c)
 |dK aA=>let⟨z,y,vs,r,ob,es,ep,e,c⟩:=x;exact(z,y,vs,r,ob,es,ep,ûo,c)
 |dT aA=>
  let⟨z,y,xs,r,ob,es,ep,e,c⟩:=x;exact(z,y,xs,ĠA r λp q z=>ĮA,ob,es,ep,ûo,c)
 |set S n=>let⟨ob,es,ep,t,e,c⟩:=x;exact(ob,es,ep,t,ûo,c)
 |ins C dx fs=>
  let⟨d,z,ne,e,mA,⟨od,es,ep,e2,c⟩,r⟩:=x;exact(ho _ d,z,ne,ûo,mA,(od,es,ep,k _ _ (.inr d) e2,c),r)
 |own y=>let⟨ob,e⟩:=x;exact(ob,ûo)
 |xd fs=>let⟨mA,⟨od,es,ep,e,c⟩,r⟩:=x;exact(mA,(od,es,ep,ûo,c),r)
 |rng lo hi=>let⟨t,u,v,e⟩:=x;exact(t,u,v,ûo)
 |jl ob u ih=>let⟨e,q⟩:=x;exact(ûo,ih q)
 |M9 ps=>
  have e:úW=ėI:=x;show ùn a=ėI;ext os
 |met f y=>
  have e:úW=Ĭm:=x;show ùn a=Ĭm;ext os
 |ext φ=>let⟨p,⟨o,e⟩,st⟩:=x;exact(st _ _ p λo q=>k _ _ út q,(o,ûo),st)
def jF.lt[199](e:āq):a<úG:=(x a o e).lt
def jF.fresh[199](e:úG<=a):ĒP:=by
 cases q:H a with
 |none=>rfl
 |some u=>exact absurd (ľ (x.lt q) e) úX
def jF.kept[199](k:Ĉ7):jF P w H h':=λa o e=>
 (x a o e).oI (λb u _ q=>ēS) ĝC þ'
def jF.laid[199](k:Ĉ7)(hp:úG<=a)(new:cf P w ĀV h' a o):jF P w ĀV h':=λb u e=>by
 have hn:=x.fresh hp;ext bZ
 ext jF
 .rw[aO hb]at e;exact Ľa (λc v _ q=>k c v q) Ľr ŀW
open e
def Rd[79](u:HO):Prop:=(H a=Ę\/∃o,H a=ět)
def Rd.ok[36]{H:Hp}{a:Vi}{u:HO}(r:Rd H a u)[199]:ĽY:=by
 rcases r with r|⟨o,r⟩
 .exact x a u r
 .let⟨_,q⟩:=x a _ r;ext m
def Mut:Ġw->Prop
 |ě8=>True
 |ĜZ=>True
 |Ĝ0=>True
 |some (.set _ _)=>True
 |some (.ins _ _ _)=>True
 |some (.ext _)=>True
 |_=>False
section
variable[36]{H:Hp}{x e:Vi}{o':HO}
def jF.write[109][315][461][336](new:cf P w ļ_ h' x o'):jF P w ļ_ h':=λb u q=>by
 have aa9:∀c y,H c=some ğU->c≠x:=λc y r z=>ĬG
 have adz:∀c xs,H c=ĉL->c≠x:=λc xs r z=>ĬG
 by_cases hb:b=x
 .subst hb;ext gh;exact new
 .rw[aO hb]at q;by_cases IS:b=e
  .have q':H b=some Ēh:=by
    ext od
    .exact absurd (IS.trans z) hb
    .rw[IS];ext o
   ext gb;let⟨v,hv⟩:=heo;exact(v,by rw[IS];exact hv)
  .refine(ok b u q).oI (λc v hc r=>k c v ?_ r) (λc r=>by rw[aO (aa9 c b r)];exact r) λc xs r=>by rw[aO (adz c xs r)];exact r
   ext nn
   .exact IS
   .ext dV;ext od
    .exact aa9 c b hc z
    .rw[hc]at z;cases z;exact hb rfl
open e
structure Un(fs ex:Ve)[293](h h':Heap):Prop where
 keep:∀b o,ûl->ŷ->b ∉ fs->ĉF->ĂM
 slot:∀b o,ûl->ŷ->b∈fs->ĉF->Ėw
 free:∀b o,ûl->ŷ->ĉF->ĐF
 there:∀b o,ûl->ĉF->∃o',ě_
 nS:Či
 mZ:Čh
 oJ:ĦE
section
variable{fs fs' ex ex':Ve}{H H1 H2:Hp}{h1 h2:Heap}{a x e:Vi}{o:HO}
def Un.any(u:Un fs ex H H1 h h1){b:Vi}{ob:Obj}(q:ċW=ÿB)(n:ŷ)(hx:ĉF):∃sl,Ą0 b=some {ob with slots:=sl}:=by
 by_cases hb:b∈fs
 .exact u.slot b ob q n hb hx
 .exact(ob.slots,u.keep b ob q n hb hx)
def Un.kept(k:Ĉ7):Un fs ex H H h h':=
 (λb ob q _ _ _=>ĢA,λb ob q _ _ _=>(ob.slots,ĢA),λ_ _ _ n _=>n,λb ob q _=>(ob,ĢA),þ',λ_ _ _ q=>q,λ_ ps q=>(#[],ĎK))
def Un.refl:Un fs ex H H h h:=ēE þ'
theorem Un.laid(k:Ĉ7)(hp:úG<=a)(hn:ĒP):Un fs ex H ĀV h h' where
 keep:=λb u q _ _ _=>ēS
 slot:=λb u q _ _ _=>(u.slots,ēS)
 free:=λb u q n _=>by rw[aO (œ (ľ ġG hp))];exact n
 there:=λb u q _=>(u,ēS)
 nS:=λb xs q=>Čo
 mZ:=λb u xs q=>Čo
 oJ:=λb ps q=>(#[],by rw[Ńd,q];simp)
def Un.write[315][461][336]:Un fs ex H Ĝn h h':=by
 have hx:∀b,ŷ->b≠x:=λb n z=>by ext A;rw[n]at mu;exact mu
 have hb:∀b,ŷ->b≠e:=λb n z=>by
  ext A;rcases he with r|r
  .exact hx b n r
  .rw[n]at r;cases r
 have hm:∀b u,ēx->¬ Mut āU->b≠x:=λb u q nm z=>by ext A;rw[q]at mu;exact nm mu
 refine(λb u q n _ _=>ĺJ,λb u q n _ _=>(u.slots,ĺJ),λb u q n _=>by rw[aO (hx b n)];exact n,λb u q _=>?_,
  λb xs q=>ĸq,λb u xs q=>ĸq,λb ps q=>(#[],by rw[Īb,q];simp))
 by_cases IS:b=e
 .subst IS;exact heo
 .exact(u,k b u IS q)
open e
def xi[15](H:Hp):Ve:=((û2 úG).filter λa=>(H a).isSome)
def yz[15](H:Hp):Heap:=(W.hideAll h Ġc)
def GF[15](H:Hp):(yz h H).úz=úG:=W.hideAll_size _ _
def IT{H:Hp}[132](e:ûl)(n:ŷ):ę_=Ă:=
 ďS _ e λhm=>by have q:(H b).isSome=true:=(ûW hm).2;rw[n]at q;simp at q
def Nl{H:Hp}[132](e:ę_=Ă):ûl/\ŷ:=by
 have e':ûl:=ł7 Ġc e;refine(e',?_);cases q:H b with
 |none=>rfl
 |some x=>
  have hm:b∈xi h H:=List.mem_filter.mpr (Ķ0 (ŉ e'),by simp[q]);have z:ę_=none:=W.hideAll_none Ġc hm;ext ah;ext g
structure Mod[68](base:Heap):Prop where
 QP:Ġt
 glob:ĆW
 blt:∃mb,base.Ns builtinsNs mb/\ĵx
 nolimit:base.NoLimit
structure Cx where
 prog:Vk
 w:World
 K:Va
 mg:Str->Vd
 base:Heap
 A:Vj
 N:Vf
 cr:Vh
 jp:Hp
 env:Env
 outer:ûj
 stack:ûj
 ex:Ve
 fn:ür
 calm:Bool
 pn:U'
 xe:ģF
def iu(l:ûj):Ve:=(l.filterMap łc)
abbrev Cx.fs(X:Cx):Ve:=iu Ąx
def QQ[375][21]:Prop:=(Čl=ùZ\/Ĥp\/Čl=þJ)
def Loc[375][21]:Prop:=(ĭk)
def Look[237][15](m:U?)[21](u:Vg):Prop:=(
 (ĜQ=ùZ/\m x=Ę)\/((ĜQ=ýf\/ĜQ=þJ)/\∃c,env.cells.lookup x=ň/\h.IsCell c āU))
abbrev vV[223](es:ûr):Prop:=Ěl=Āh::ďc
abbrev mK[21]:Prop:=(x==īf)=false
abbrev vW(X:Cx)(pos:Pos)(es:ûr):Prop:=(ČP).any ď=false
structure Cx.Ok(X:Cx):Prop where
 mod:Ĺ'
 kind:Ěf=Ď2
 glob:ěZ=mainGlobals
 blt:X.env.builtins=builtinsNs
 above:ăl<=øD
 inj:∀x y c,úm->će y=ň->x=y
 has:∀x,į6->∃c,úm
 RT:∀x c,ĝN->úm->ăl<=c
 hd:ĈG->ĺi
 frames:X.A.frames=some øt
 Nm:øt=Ąx\/(øt=Ģ6/\ĳT)
 exf:∀b∈X.ex,ÿy/\ĸ'
 bs:∀b o,ćt->ćg/\ĝO
 Nn:X.base.objs.size<=ăl
 CA:∀b o,ćt->ĒB
 IU:∀b∈X.ex,ĈY
 m8:ĴV ùb Ąx
 IV:∀b∈X.fs,ĝO
structure aG[78](Y:Ğ8)[134]:Prop where
 ok:X.Ok
 os:s.os=X.cr.os
 bare:ĽA
 base:Un X.fs X.ex X.jp H X.cr.heap ù
 loc:∃m,ĚH/\∀[5][21](v:V),ē4->ĠI->ĩW
 cell:∀x c,úm->∃v,ęQ
 free:H øD=none
 ja:∀x c,úm->ĒQ
 pin:∀p∈ĒX,ĥQ
 bE:jF Đ X.w H ù
 len:Ē0=X.N.length
section
variable{X:Cx}{Y:Ğ8}[242]{s:Vh}
def Cx.Ok.adA(ok:X.Ok)[132](e:ćt):ĈY:=λhb=>by have:=(ok.m8.mem hb).1;rw[e]at this;ext bx
def aG.bs[0]:∀b o,ćt->Ŵ/\ŷ:=λb o e=>
 (ćn b o ćO.1 ćO.2 (I.ok.adA e) Ŀw,Ām b o ćO.1 ćO.2 Ŀw)
def aG.bk[0]:∀b o,ćt->Ŵ:=λb o e=>(I.bs b o e).1
def aG.mod[0]:Ĺ':=ĒS
def aG.nT[0]:X.K.In ù:=I.ok.mod.QP.keeps I.bk
def aG.lt[0]:øD<ü:=let⟨_,hn,_⟩:=úV;hn.lt
def aG.sz[0]:ăl<=ü:=ģ ď9 (ăv I.lt)
def aG.adB[0]{a:Vi}(h:ü<=a):a ∉ X.fs:=λhb=>by ext b;ext eK;ext a;exact absurd (ľ Đf (ģ I.sz h)) úX
def aG.M_[0]:∀x c,úm->c≠øD:=λx c e z=>by ext cN;let⟨m,⟨o',es,ep,vX,hd',_⟩,_⟩:=úV;rw[z,vX]at ho;cases ho;rw[hd']at hd;cases hd
def aG.m8[0]:ća ùb Ąx:=by
 have all:∀(l:ûj),(∀b∈iu l,Ē2)->ĴV ùb l->ća ùb l:=by
  intro l
  induction l with
  |nil=>intro _ _;ext i
  |cons env r ih=>
   intro hs hl;let⟨hk,⟨L,o,hf,hn,ho,hd⟩,hr⟩:=hl;have hL:L∈X.fs:=hs L (by ext eB;ext bF);let⟨sl,e⟩:=ăR L o ho (ģs L hL) hL λz=>ģr L z hL;exact(hk,(L,_,hf,hn,e,hd),ih (λb hb=>hs b (by ext eB;ext dG)) hr)
 exact all Ąx (λ_ hb=>hb) I.ok.m8
def aG.stack[0]:ća ùb øt:=by
 ext ko
 .rw[e];exact I.m8
 .rw[e];let⟨m,hn,_⟩:=úV;refine Ċ (by rw[üq];decide) hf hn ?_ I.m8;exact ĳF (ģ ģt ď9)
def aG.ud[0]:∀b∈ýI,b∈øD::X.fs:=λb hb=>by
 ext ko
 .rw[e]at hb;ext dG
 .rw[e]at hb;unfold iu at hb;rw[ĴF,hf]at hb;exact hb
def aG.yA[0]:∀b∈ýI,ŷ:=λb hb=>by
 rcases ŏ (I.ud b hb)with e|hb
 .rw[e];exact øT
 .ext b;ext eK;ext a;exact Ām b o ho Ěp λz=>ģr b z hb
def aG.step[469][74]{d':Drawn}[0][306](keep:∀b o,ÿy->ĈY->ĉE->Ŵ->ŷ->ĂM)(slot:∀b o,ÿy->Ē2->ĉE->Ŵ->ŷ->Ėw)(free:∀b o,ĉE->Ŵ->ŷ->ĐF)(there:∀b o,ĉE->Ŵ->∃o',ě_)(nS:Či)(mZ:Čh)(oJ:ĦE)(ns:∀m,ĚH->h'.Ns øD m)[330][504]:
  ĦW:=by
 ext ee;have neC:∀b o,ćg->ĒB->ĉE:=λb o e hx hb=>by
  rcases(M! b hb).1 with z|z
  .exact hx z
  .exact absurd (ľ ýH z) úX
 have cellK:∀x c,úm->∀v,ęQ->h'.IsCell c v:=λx c e v⟨o,ho,hd⟩=>by
  have nch:c ∉ ch:=ĭn;by_cases hc:c∈X.fs
  .let⟨sl,q⟩:=slot c o ĎU hc nch ho ěF;exact(_,q,hd)
  .exact(o,keep c o ĎU hc nch ho ěF,hd)
 refine(I.ok,I.os,hg,(č9,č9,λb o e n hx=>?_,ľo,λb xs e=>nS b xs (Ąm b xs e),λb o xs e=>mZ b o xs (Ąl b o xs e),λb ps e=>?_),?_,þ4,?_,þ4,øL,bE,ý_)
 .exact keep b o Łu hb ďk ĘG ęB
 .ext b;ext et;let⟨QR,e2⟩:=slot b _ Łu hb ďk e1 ęB;ext a;exact ġq
 .ext cD;exact free b o' ďk e1 ęB
 .ext cD;exact there b o' ďk e1
 .ext b;let⟨m1,e1⟩:=Ąn b ps e;let⟨m2,e2⟩:=oJ b _ e1;ext a;exact ĩo
 .ext b;ext dj;ext a;refine(m,ns m hn,ĳ_);ext b;ext kg;ext a;refine(u,r,?_);rcases l with l|⟨k,c,e,z⟩
  .exact .inl l
  .exact .inr (k,c,e,cellK x c e _ z)
 .let⟨v,z⟩:=ùG x c e;exact(v,cellK x c e v z)
 .ext b;let⟨m,⟨o,_,_,ho,_⟩,_⟩:=úV;ext a;exact free _ o (Ĳ') ho øT
 .ext b;ext cN;ext a;exact free c o (ĭn) ho ěF
 .ext b;ext bM;have nch:p.1 ∉ ch:=λz=>(M! p.1 z).2.2.2 p hp rfl;ext a;exact(keep p.1 p.2 ne nf nch e n,free p.1 p.2 nch e n,ne,nf,d)
def aG.un[74][0](u:Un X.fs [] H H' ù h')[330]:aG X ak Y H' Ăr:=by
 ext b;ext jm;let⟨sl,hL⟩:=u.any ho øT Ĉ;ext a;exact I.step (g':=s.gens) (d':=s.drawn) (ch:=[]) (λ_ z=>nomatch z) (λb o _ hb _ e n=>u.keep b o e n hb Ĉ) (λb o _ hb _ e n=>u.slot b o e n hb Ĉ) (λb o _ e n=>u.free b o e n Ĉ) (λb o _ e=>u.there b o e Ĉ) u.nS u.mZ u.oJ (λm' hm=>by
  ext b;ext la;ext a;ext ju) bE øS
def aG.call[469][74]{d':Drawn}[0](u:Un ÿR ch H H' ù h')[330][504][306]:
  ĦW:=by
 ext b;ext jm;let⟨sl,hL⟩:=u.any ho øT Ĳ';ext a;exact I.step (ch:=ch) M! (λb o hL hb hc e n=>u.keep b o e n (λz=>łf hL hb) hc) (λb o _ _ hc e n=>u.any e n hc) (λb o hc e n=>u.free b o e n hc) (λb o hc e=>u.there b o e hc) u.nS u.mZ u.oJ (λm' hm=>by
  ext b;ext la;ext a;ext ju) bE hg
def aG.turned[74][0](k:∀b o,b≠it->ēe)(hn:H it=none)(hL:it≠øD)(h1:it∈X.ex\/ăl<=it)(h2:∀x c,úm->c≠it)(h3:∀p∈ĒX,p.1≠it):Ļ9:=by
 have nit:∀b u,ēx->b≠it:=λb u e z=>by rw[z,hn]at e;ext g
 refine I.step (g':=s.gens) (d':=s.drawn) (ch:=[it]) (üd) (λb o _ _ hc e _=>Ęv) (λb o _ _ hc e _=>(ĝY,Ęv)) (λ_ _ _ _ n=>n)
  (λb o hc e=>(o,Ęv)) (ğJ) (Ĝ6) (λb ps e=>ı8) (λm hm=>?_) (λb u e=>?_) øS
 .ext bX
  ext l;exact(h1,hL,h2,h3)
 .let⟨o,es,ep,ho,r⟩:=hm;exact(o,es,ep,k _ o (øv hL) ho,r)
 .refine(I.bE b u e).oI (λc v hc q=>k c v ?_ q) ĝC þ';rcases hc with z|z
  .rw[z];exact nit b u e
  .exact nit c _ z
def aG.tok[0](t:Nat):aG X ak Y H {s with toks:=t}:=I.un (h':=s.heap) (t':=t) Un.refl I.bE
def aG.kept[74][0](k:ğP):Ļ9:=I.un (ēE k) (I.bE.kept k)
def aG.laid[235][74][0](k:ğP)(hp:ü<=a)(new:cf Đ X.w ĀV h' a o):
  aG X ak Y ĀV Ăr:=I.un (Un.laid k hp (ĈT hp)) (I.bE.laid k hp new)
def aG.write{x e:Vi}{o:HO}[74][0][315](k:∀b u,b≠e->ħd)[336](new:cf Đ X.w Ĝn h' x o):aG X ak Y Ĝn Ăr:=I.un (Un.write mu he k heo) (I.bE.write mu he k heo new)
def aG.tu{QS:U'}[0](h:∀p∈QS,ĥQ):aG X QS Y H s:=
 (I.ok,I.os,øS,ĊD,úV,ùG,øT,I.ja,λp hp=>ĻK (λz=>üM p (Ću _ z)) (h p),I.bE,ý_)
def ue{N:Vf}(hN:ēC)[4](a:N[i]?=ī)(b:N[j]?=ī):i=j:=by let⟨h1,e1⟩:=ùj a;let⟨h2,e2⟩:=ùj b;exact(Ĺ6 hN).mp (e1.trans e2.symm)
def p8[35][298][4][137][128][0][265](r:øn)(h:∀s',ĺm->(∃a,Āu a ù ù7/\(a=øD\/će x=Ō))->ĒU)[119]:ĪU:=by
 ext b;let⟨m,hn,hl⟩:=id úV;ext a;have adC:(Ěf == .class || (Ěf == .module&&øD !=ěZ))=false:=by rw[üq];rfl
 have aa_:i<Ē0:=ĭE
 have M_:=I.M_;have tracked:∀{a:Vi}{h':Heap},(∃o,ġf/\ĒP)->Ń1->ļi:=λ{a h'}ha hs b ob e=>by
  let⟨_,_,En⟩:=ha;refine(I.bE b ob e).oI (λc w' hc q=>(hs.2 c ?_).trans q) ĝC þ';ext dV;ext nn
  .rw[En]at e;ext g
  .rw[En]at hc;cases hc
 rcases hx with hk|hk
 .refine wpAny_storeName_local hk hn (λh' RU hs=>?_) adC;ext b;let⟨oL,_,_,hoL,_⟩:=id hn;ext a;refine h _ (I.ok,I.os,øS,ĥk,(_,RU,Ĳ8),λy c e=>?_,øT,I.ja,øL,tracked (oL,hoL,øT) hs,ķa) (_,hs,üw)
  .exact ĕ3 ĘG
  .ext et;exact(sl,ĕ3 e1)
  .ext cD;exact(o',ĕ3 e1)
  .ext gp
   .ext ix;exact(u,r,.inl (hk,Ń))
   .ext b;ext im;ext a;refine Ł8;rcases q with⟨k,e⟩|⟨k,c,e,z⟩
    .refine .inl (k,?_);have:y≠x:=λe=>hj (ue hN e1 (e▸hi));simp[this,e]
    .exact .inr (k,c,e,ıc)
  .let⟨w',z⟩:=ùG y c e;exact(w',ıc)
  .ext b;ext bM;ext a;exact((hs.2 p.1 ne).trans e,n,ne,nf,d)
 .ext b;have IX:ĝN:=by
   rcases hf with z|z
   .ext o
   .rw[z]at hk;ext L
  let⟨c,hc⟩:=I.ok.has x (.inl hk);let⟨w',z⟩:=ùG x c hc;ext a;refine wpAny_storeName_cell üq hk hc z (λh' bW hs=>?_);ext b;let⟨oc,hoc,adD⟩:=id z;ext a;refine h Ţ (I.ok,I.os,øS,ĥk,(m,hn.sameBut hs (øv (M_ x c hc)),Ĳ8),λy c' e=>?_,øT,I.ja,øL,tracked (oc,hoc,I.ja x c hc) hs,ķa) (c,hs,.inr hc)
  .exact ĕR ĘG
  .ext et;exact(sl,ĕR e1)
  .ext cD;exact(o',ĕR e1)
  .ext gp
   .ext ix;exact(u,r,.inr (.inl hk,c,hc,bW))
   .ext b;ext im;ext a;refine Ł8;rcases q with q|⟨k,c',e,z'⟩
    .exact .inl q
    .refine .inr (k,c',e,z'.sameBut hs ?_);ext dV;exact hj (ue hN e1 (ġ4 _ _ _ e hc▸hi))
  .by_cases hcc:c'=c
   .subst hcc;exact(_,bW)
   .let⟨w2,z2⟩:=ùG y c' e;exact(w2,z2.sameBut hs hcc)
  .ext b;ext bM;ext a;refine((hs.2 p.1 ?_).trans e,n,ne,nf,d);intro q;rw[q,hoc]at e;have q':oc=p.2:=Ăc;exact d w' (by rw[<-q'];exact adD)
def uf[35][298][4][137][128][0][265](r:øn)(h:∀s',ĺm->ĒU)[119]:ĪU:=
 p8 I hN hi hx r (λs' I' _=>h s' I') hf
def aG.xj{s':Vh}[0](ho:ğz)(u:Un ÿR ch H H' ù ù7)(bE:jF Đ X.w H' ù7)(hg:Ď4)[306]:Āy:=by let⟨h',g',d',t',o'⟩:=s';have e:o'=s.os:=ho;ext l;exact I.call (g':=g') (t':=t') (d':=d') u bE hg M!
open e
abbrev XK:=Vg->úM->øZ
abbrev St:=Ğ8
abbrev VK:=V->øZ
abbrev TE:=St->ċ4
abbrev TT:=St->Hp->(Ąk)->Prop
abbrev TA:=St->Hp->(ēg)->Prop
structure Ends where
 nx:ùa
 rt:VK
 bk:ùa:=Ĉz
 ct:ùa:=Ĉz
abbrev TS:=Ends->ùa
def EP[78](Y:St)(Q:VK)(u:Vg)[83]:Prop:=(∃v H',Āy/\øn/\Ĕq)
def TP[78](Y:St)(Q:Ąk)[10][83]:Prop:=(∃H',Āy/\Q b H')
def AP[78](Y:St)(Q:ēg)[61][83]:Prop:=(∃vs H',Āy/\ĄH/\Q vs H')
def SP[78][108](f:Flow)[83]:Prop:=(
 match f with
 |.next=>∃cx H',þw/\D.nx cx H'
 |.brk=>∃cx H',þw/\D.bk cx H'
 |.cont=>∃cx H',þw/\D.ct cx H'
 |.ret u=>∃v cx H',þw/\øn/\D.rt v H')
def PE[223](t:TE):Prop:=(
 ∀[16](Q:VK),ĥ->ýX->wpAny Ć X.A Ĕ4 ø3 X.xe s)
def PT[223](t:TT):Prop:=(
 ∀[16](Q:Ąk),ĥ->ýX->wpAny Ć X.A (isTrue e Ā Ĕ4) Ě0 X.xe s)
def PW[223](t:TT):Prop:=(
 ∀(whole:Sem Vg)[16](Q:Ąk),ĥ->ýX->wpAny Ć X.A (ķd) Ě0 X.xe s)
def PW.pt{X:Cx}{t:TT}(h:PW X e t):PT X e t:=h _
def PA(X:Cx)(es:ûr)(t:TA):Prop:=(
 ∀(pos:Pos)[16](Q:ēg),ĥ->ýX->wpAny Ć X.A (spliced (ČP)) ĺ4 X.xe s)
def PS(X:Cx)[241](t:TS):Prop:=(
 ∀[16][108],ĥ->ģ5->wpAny Ć X.A Ļh ĈC X.xe s)
def kM(X:Cx)(st:úF)(t:TS):Prop:=(
 ∀[16][108],ĥ->ģ5->wpAny Ć X.A Ĺv ĈC X.xe s)
def de{t:ąn}{Q Q':Ĥv}[35]{A:Vj}[18](h:ĸS)(hQ:∀a s,Q a s->Q' a s):wpAny M A t Q' E s:=wpAny_mono h hQ đl
section
variable{X:Cx}
def adE[5]:TE:=(λY H Q=>∃v,ĠI/\Q v H)
def tC(v:V):TE:=(λ_ H Q=>Q v H)
def CB[4](hN:ē4)(hv:ĒV)[38][431]:PE X ĀL (adE i):=by
 ext q;ext b;let⟨v,e,h⟩:=h;ext dj;let⟨u,r,l⟩:=hl i x v hN e hv;have fin:EP X ak Y Q u s:=Ĝo
 ext a;rcases l with⟨hk,hm⟩|⟨hk,c,hc,QT⟩
 .exact wpAny_Name (wpAny_loadName_local üq hk hn hm fin) hd
 .rcases hk with hk|hk
  .exact wpAny_Name (wpAny_loadName_cell üq hk hc QT fin) hd
  .exact wpAny_Name (wpAny_loadName_free üq hk hc QT fin AF) hd
def RV{i j pos}:PE X ķZ (tC ļ):=λ_ _ _ H _ I h=>wpAny_Constant_int (ĝ,H,ù2,ę,h)
def QU{b j pos}:PE X Ĳv (tC ùJ):=λ_ _ _ H _ I h=>Constant_bool (Ś,H,I,rfl,h)
def RW{j pos}:PE X ķY (tC .cq):=λ_ _ _ H _ I h=>Constant_none (.cq,H,I,rfl,h)
def RX{x j pos}:PE X ķX (tC üN):=λ_ _ _ H _ I h=>Calls.Constant_str (ük,H,ù2,ę,h)
def Gl(X:Cx)[21]:Prop:=(ĂV x=some .globalImplicit)
def mL[18][300][4]{u:Vg}[0][45](hm:ýM=Ę)(h:Q u s)[38]:īa:=
 ĮF üq hg (Calls.loadGlobal_global ħN hm h) hd
def kP[18][300][4]{u:Vg}[0][86](hv:þh=Ę)(h:Q u s)[65][38]:īa:=by ext b;let⟨mb,h1,h2⟩:=I.mod.blt;ext a;exact ĮF üq hg (Calls.loadGlobal_builtin ħN hm (by rw[ġ3];exact h1.keeps I.bk) ((h2 x hn).trans hv) h) hd
def yB[4][137][45](hm:ýM=Ę)(r:øn)[38]:Ļ2:=
 λ_ _ _ H _ I h=>mL I hg hm Ĝo hd
def Eo[4][137][86](hv:þh=Ę)(r:øn)[65][38]:Ļ2:=
 λ_ _ _ H _ I h=>kP I hg hm hv Ĝo hn hd
variable[234]{ta tb:TE}
def PC(X:Cx)(op:CmpOp)(a b:Expr)(t:TE):Prop:=(
 ∀[16](Q:VK),ĥ->ýX ->
  wpAny Ć X.A (ěC) (λv ap=>wpAny Ć X.A (ěD) (λu dL=>wpAny Ć X.A (compareOp op v u) ø3 X.xe dL) X.xe ap) X.xe s)
def tB(t:TE):TT:=(λY H Q=>t Y H λx H1=>∃c,ē2/\Q c H1)
def RY{t:TE}(h:PE X e t)(he:autoParam (∀whole,ķd=(do let v <- whole;standAt e.pos;ıV)) ĝ4):PT X e (tB t):=by ext nf;refine isTrue_plain (de Ĳl Č2) (he _);ext b;let⟨d,rfl,q⟩:=q1;ext av;ext a;exact wpAny_truthy_bool (H1,I1,q)
variable{tA Np:TT}[379]
def adF(t u:TT):TT:=(λY H Q=>t Y H λc H1=>if ĊM then u Y H1 Q else Q false H1)
def tOr(t u:TT):TT:=(λY H Q=>t Y H λc H1=>if ĊM then Q true H1 else u Y H1 Q)
def adG(t:TT):TT:=(λY H Q=>t Y H ĸ7)
def Nq[216]:PW X ĳv tA:=by
 ext di;refine isTrue_and ĩn;cases c with
 |true=>exact isTrue_and_nil e
 |false=>exact e
def RZ[216]:PW X Ĵv tA:=by
 ext di;refine isTrue_or ĩn;cases c with
 |false=>exact isTrue_or_nil e
 |true=>exact e
def R0[216](hb:PW X čl Np):PW X ČE (adF tA Np):=by
 ext di;refine isTrue_and ĪH;cases c with
 |true=>ext ky
 |false=>exact Łq
def aa![216](hb:PW X čm Np):PW X či (tOr tA Np):=by
 ext di;refine isTrue_or ĪH;cases c with
 |true=>exact Łq
 |false=>ext ky
def R6[216]:PT X čt (adG tA):=by ext q;exact isTrue_not (ha ak s Y H (ĸ7) I h)
def aa?[291]:TE:=(λY H Q=>ta Y H λx H1=>∃c,ē2/\if ĊM then ġa else Q új H1)
def adH[291]:TE:=(λY H Q=>ta Y H λx H1=>∃c,ē2/\if ĊM then Q øz H1 else ġa)
def aa'(ta:TE):TE:=(λY H Q=>ta Y H λx H1=>∃c,ē2/\Q (.bl (!c)) H1)
def R7{op}{t:TE}(h:PE X a t):PE X ĶO t:=λak s Y H Q I hw=>BoolOp_one Ĳk
def R8[277](hb:PE X čl tb):PE X ČE (aa? ta tb):=by
 ext q;refine BoolOp_and (Đ8);ext b;ext eP;ext a;ext ls;cases c with
 |true=>ext eX
 |false=>exact(ùR,H1,I1,rfl,q1)
def aba[277](hb:PE X čm tb):PE X či (adH ta tb):=by
 ext q;refine BoolOp_or (Đ8);ext b;ext eP;ext a;ext ls;cases c with
 |false=>ext eX
 |true=>exact(Ż,H1,I1,rfl,q1)
def R9[277]:PE X čt (aa' ta):=by ext q;refine UnaryOp_ (Đ8);ext eP;exact not_of (wpAny_truthy_bool (.bl (!c),H1,I1,rfl,q1))
def tIf(t:TT)[291]:TE:=(λY H Q=>t Y H λc H1=>if ĊM then ta Y H1 Q else ġa)
def IY[186](hc:PT X c tA)[157]:PE X ĳe (tIf tA ta tb):=by
 ext q;refine wpAny_IfExp ħt;cases d with
 |true=>exact ha ak s1 Y H1 Q I1 q1
 |false=>ext eX
open e
def kN(K:Va)[79][71]:Prop:=(
 Rd H a þu \/
  ∃(o:Obj)(aE:Ů)(n:Nat),ġh/\ē7 /\ ĈI/\Ķj)
def mM(K:Va)[79][71]:Prop:=(
 Rd H a ĀK \/
  ∃(o:Obj)(aE:Ů)(n:Nat),ġh/\ýu /\ Ķj)
def adI:Vg->üm
 |ė=>some .cq
 |ċY=>some ùJ
 |.int i _=>some ļ
 |.str x _=>some üN
 |.bytes b _=>some (.byt b)
 |.float b _=>some (.se b)
 |Ņ=>some ś
 |ċ1=>some (.ty n)
 |_=>none
def bh.abs{x:V}{u:Vg}(r:ý2):adI u=ī:=by
 cases x with
 |cq=>ext bw
 |bl _=>ext bw
 |int _=>ext aq;rfl
 |str _=>ext aq;rfl
 |byt _=>ext aq;rfl
 |se _=>ext aq;rfl
 |ref _=>ext bw
 |ty _=>ext bw
def bh.inj[118]{u:Vg}(r:ý2)(q:ąs):x=y:=ùQ (r.abs.symm.trans q.abs)
def ba.inj[229][23](p:ùD)(q:ba ys us):ąL:=by
 induction p generalizing ys with
 |nil=>ext M;rfl
 |cons r t ih=>
  cases q with
  |cons r' t'=>rw[ĢJ,ih t']
section
variable{X:Cx}[56]{a:Vi}[229]
def kN.of{K:Va}(h:H a=ĢS):ăf:=.inl ĕb
def mM.of{K:Va}(h:H a=ĉL):ýB:=.inl ĕb
def aG.list[0][479]:∃aE:Vc,āl/\PlainL ù a ĺ/\ùX:=by
 rcases h with h|⟨o,aE,n,hk,hc,hd,hs,hz,r⟩
 .let⟨z,aE,n,r,e⟩:=h.ok I.bE;exact(aE,r,(_,n,e,rfl,rfl,rfl),z)
 .refine(ýE,r,(o,n,ŅI,hc,hd,ĸx),?_);ext kV;ext c
def aG.tuple[0][480]:∃aE:Vc,āl/\IsTup ù a ĺ/\ùX:=by
 rcases h with h|⟨o,aE,n,hk,hc,hs,hz,r⟩
 .let⟨z,aE,r,p⟩:=h.ok I.bE;exact ŁC
 .refine(ýE,r,(o,ŅI,hc,n,ĸx),?_);ext kV;ext c
def aG.oK[0][479](h':kN X.K H a ys):ąL:=by
 let⟨aE,r,⟨o,n,e,_,_,d⟩,_⟩:=ù8 h;let⟨its',r',⟨o',n',e',_,_,d'⟩,_⟩:=ù8 h';ext hp
 ext r;exact ĢJ
def aG.p9[0][480](h':mM X.K H a ys):ąL:=by
 let⟨aE,r,⟨o,e,_,n,d⟩,_⟩:=ø' h;let⟨its',r',⟨o',e',_,n',d'⟩,_⟩:=ø' h';ext hp
 ext r;exact ĢJ
open e
abbrev Cx.ug(X:Cx)(E:U!):Cx:={X with xe:=E}
def Cx.Ok.ug{X:Cx}(ok:X.Ok)(E:U!):ľZ:=
 Ĥ4
def Cx.Ok.yC{X:Cx}{E:U!}(ok:ľZ):X.Ok:=
 Ĥ4
section
variable{X:Cx}[56]{E:U!}
def aG.ug[0](E:U!):ĳU:=(I.ok.ug E,I.os,øS,ĊD,úV,ùG,øT,I.ja,üM,I.bE,ý_)
def aG.yC(I:ĳU):ĥ:=(I.ok.yC,I.os,øS,ĊD,úV,ùG,øT,I.ja,üM,I.bE,ý_)
open e
section
variable{X:Cx}[93]{rest:úF}{t u:TS}{te:TE}
def abb:TS:=(λD Y H=>D.nx Y H)
def adJ(t u:TS):TS:=(λD Y H=>t ĺR Y H)
def Nr:kM X [] abb:=λ_ _ Y H _ I h=>wpAny_execs_nil ńp
def IZ(h1:PS X st t)(h2:kM X rest u):kM X (st::rest) (adJ t u):=by
 ext X;refine wpAny_execs_cons (de (h1 ak s Y H ĺR I h) Đo);cases f with
 |next=>
  ext b;let⟨cx,H',I',q⟩:=q;ext a;exact h2 ak s1 cx H' D I' q
 |ret v=>ext m
 |brk=>ext m
 |cont=>ext m
def Nt(h1:PS X st t):kM X [st] t:=by
 ext X;refine wpAny_execs_cons (de (h1 ak s Y H D I h) Đo);cases f with
 |next=>ext fz
 |ret v=>ext m
 |brk=>ext m
 |cont=>ext m
def aG.quiet[56][0]:interactive Ā=false:=by simp[interactive,üq]
def abc[198]:TS:=(λD Y H=>te Y H ĸ5)
def Nu(he:āc)[260]:PS X ďA (abc te):=by ext X;exact wpAny_Expr_any (de ĂU İy) I.quiet hs
def adK[198]:TS:=(λD Y H=>te Y H D.rt)
def R!(he:āc):PS X įR (adK te):=by ext X;exact wpAny_Return_some (de ĂU λv s1 ÿ7=>(x,Y,H1,I1,r1,q1))
def abd:TS:=(λD _ H=>D.rt .cq H)
def Nv:PS X ĳf abd:=λ_ _ Y H _ I h=>wpAny_Return_none (.cq,Y,H,I,rfl,h)
def adL(c:TT)(t u:TS):TS:=(λD Y H=>c Y H λb H1=>if øR then t D Y H1 else u D Y H1)
def abe[186]{a b:úF}{tc:TT}(hc:PT X c tc)(ha:kM X a t)(hb:kM X b u):PS X (.If c a b pos) (adL tc t u):=by
 ext X;refine wpAny_If ħt;cases d with
 |true=>exact ha ak s1 Y H1 D I1 q1
 |false=>exact hb ak s1 Y H1 D I1 q1
open e
abbrev TG:=V->ĴS
abbrev Nw:=ķ->ĴS
def PG(X:Cx)(target:Expr)(t:TG):Prop:=(
 ∀[16](v:V)(u:Vg)(Q:ùa),ĥ->øn->t v Y H Q ->
  wpAny Ć X.A (assign target Ā u) īl X.xe s)
def CC(X:Cx)(ts:ûr)(t:Nw):Prop:=(
 ∀[16][110][61](Q:ùa),ĥ->ĄH->t vs Y H Q ->
  wpAny Ć X.A (assignInOrder ((assignEach ts Ā).map ŗ) us) īl X.xe s)
section
variable{X:Cx}
def Ep[5]:TG:=(λv Y H Q=>Q Ė3 H)
def Nx[4][265][119]:PG X ĀL Ĕb:=by intro ak s Y H v u Q I r h;exact wpAny_assign_Name (uf I hN hi hx r (λs' I'=>(_,H,I',h)) hf)
def adM:Nw:=(λvs Y H Q=>vs=[]/\Q Y H)
def abf(t:TG)(u:Nw):Nw:=(λvs Y H Q=>∃v r,vs=v::r/\t v Y H λcx H'=>u r cx H' Q)
def Ny:CC X [] adM:=by ext kX;ext b;let⟨e,h⟩:=h;ext l;cases r;ext a;exact assignInOrder_nil ńp
def I_{t:TG}{u:Nw}(h1:PG X e t)(h2:CC X es u)[397]:CC X ŵ (abf t u):=by
 ext kX;ext b;let⟨v,vr,e1,h⟩:=h;subst e1;ext a;cases r with
 |cons r rr=>
  rw[hs];refine assignInOrder_cons (de (h1 ak s Y H _ _ _ I r h) λ_ s1⟨Ch,H1,I1,q1⟩=>?_);exact h2 ak s1 Ch H1 _ _ Q I1 rr q1
def adN(K:Va)[7](t:Nw):TG:=(λv Y H Q=>∃a xs,úT/\ýB/\į=n/\t xs Y H Q)
def R?[20]{t:Nw}[3][42](h:CC X es t)(hn:autoParam (Ľp=n) Č)[416]:PG X ęd (adN X.K n t):=by intro ak s Y H v u Q I r hw;ext b;let⟨a,xs,e1,hq,hl,hw⟩:=hw;subst e1;cases r;let⟨aE,rv,ht,hz⟩:=ø' hq;ext a;refine assign_Tuple_tuple úE ht (by simp[hn,<-hl,üe]) CD ņ1;have I1:Ď_:=ÿx (t':=s.toks) λb o e=>hx b o ĞX e;exact h ak _ Y H xs _ Q I1 (ĸy) hw
def R'[198](g:TG):TS:=(λD Y H=>te Y H λx H1=>g x Y H1 D.nx)
def Sa[4]{te:TE}[265](he:āc)[305][119]:
  PS X Ħ3 (R' te Ĕb):=by
 ext X;refine wpAny_Assign_Name (de ĂU λv s1⟨y,H1,I1,r1,q1⟩=>?_) hs;exact uf I1 hN hi hx r1 (λs2 I2=>(_,H1,I2,q1)) hf
open e
section
variable{X:Cx}
def Sb(c:TT)(tb:TS):TS:=(λD Y H=>∃W:Nat->ùa,(∃m,W m Y H)/\∀m Y H,W m Y H ->
 c Y H λb H1=>if øR then ∃N:ùa,(∀cx H',N cx H'->∃m',m'<m/\W m' cx H')/\tb ĭj Y H1 else D.nx Y H1)
def I![186][174]{tc:TT}{tb:TS}[269](hc:PT X c tc)[484]:PS X (.While c body [] pos) (Sb tc tb):=by
 ext X;ext b;ext kC;ext a;refine wpAny_While (codeAny_whileLoop (λn s'=>∃cx H',þw/\W n cx H') ?_ m0 (Y,H,I,w0));intro n s1 aP;ext b;let⟨Ch,H1,I1,w1⟩:=aP;ext a;refine wpAny_passesOwn hp (de (hc ak s1 Ch H1 _ I1 (turn n Ch H1 w1)) λb s2⟨H2,I2,q2⟩=>?_);cases b with
 |true=>
  ext b;let⟨N,hN,q2⟩:=q2;ext a;ext ae;refine wpAny_passesOwn hp (de (hb ak s2 Ch H2 _ I2 q2) λf s3 q3=>?_);cases f with
  |next=>
   ext b;ext iw;ext a;exact Ĳo
  |cont=>
   ext b;ext iw;ext a;exact Ĳo
  |brk=>exact q3
  |ret v=>exact q3
 |false=>
  rw[ņ];exact wpAny_execs_nil (Ch,H2,I2,q2)
open e
structure It where
 go:Nat->øZ
 yld:Nat->Hp->V->øZ
 stop:Nat->øZ
def nU[78](H:Hp)(b:Vi):Prop:=(
 ŷ/\ÿy/\ĈY/\ĳq/\ħ8)
def aG.CF{X:Cx}{Y:St}[242]{s:Vh}{b:Vi}[0](hb:ü<=b)(hn:ĐF):ŃF:=by
 refine(hn,ûd (ľ I.lt hb),I.adB hb,.inr (ģ I.sz hb),λx c e z=>?_,λp hp z=>?_)
 .let⟨v,q⟩:=ùG x c e;exact absurd (ľ q.lt Ĳb) úX
 .exact absurd (ľ ĵ1 Ĳb) úX
structure Turn(P:Vk)[27](K:Va)[437]:Prop where
 mem:it∈fp
 obj:ħf
 keep:ħr
 item:∀(X:Cx),Đ=P->X.w=w->X.K=K->ĈG->∀[5][16](E:U!),ĥ->ċb->ĉM->ĄD ->
  wpAny ýh X.A ĎY (λr s1=>∃u,r=Ę /\
   ĤW) E s
 done:∀(X:Cx),Đ=P->X.w=w->X.K=K->ĈG->∀[5][16](E:U!),ĥ->ċb->ĉM->ĈU ->
  Ħy
 self:Ħm
abbrev TI:=St->Hp->(ēz)->Prop
def PIE[78](Y:St)(tg:Expr)(R:ēz)(itv:Vg)(s2:Vh):Prop:=(
 ∃(it:Vi)(fp:Ve)(tn:ġ9)(J:It)(H':Hp),itv=ģl/\Ļ_/\Ĭw/\tn 0 s2.heap/\(ı5)/\R J H')
def PI(X:Cx)(tg iter:Expr)(wi:TI):Prop:=(
 ∀[16](R:ēz),ĥ->wi Y H R ->
  wpAny Ć X.A (eval iter Ā) (λv s1=>wpAny Ć X.A ŁW ęe X.xe s1) X.xe s)
def Er[35]{A:Vj}[18]{u:Vg}[100][378]{vs:Ů}[128](ho:Ũ it=Ă)(hc:āH=ċ1)(hd:úK=Ċq)(hn:ĤZ=false)(hQ:Q ý9 s):wpAny M A ĭt Q E s:=by
  unfold letOwnedTupleGo;cases tg<;>first
    |ext fU
    |(cases u<;>first
        |ext fU
        | (refine wpAny_bind (wpAny_load ho ?_)
           rw[hc,hd];show wpAny M A (if(ĤZ&&vs[0]?==some (rawInt _))=true then _ else _) Q E s;rw[if_neg (by intro h;rw[hn,ďr]at h;ext e)];ext fU))
def Itl[294]:It:=(
 (ıh,λi H x H'=>H'=H/\ľB,İv))
def Itt[294]:It:=(
 (λi H=>∃xs x,ýB/\ûk,λi H x H'=>H'=H/\∀xs,ýB->ûk,λi H=>∃xs,ýB/\į<=i))
def Itr[140][7]:It:=((λi _=>i<n,λi H x H'=>H'=H/\x=.int Ĕg,ņ2))
theorem GG[36]{K:Va}(a it:Vi):Turn P w K tg ńl [it] it (λi h=>ĜT it a i) where
 mem:=Ń
 obj:=λi h st b hb=>by
  ext b;ext bX
  ext l;ext nz;ext a;exact ńN
 keep:=ĩi
 item:=by ext N;ext b;ext T;ext mA;ext ll;ext lo;ext ao;ext a;refine wpAny_pyNext_list_item st āo (x:=u) ĘD ľs;ext b;ext hh;ext a;exact(u,rfl,Er (s:=Ţ) e c d ø (x,H,I1,ru,(rfl,λys hy=>by rw[I.oK hy hq];exact hx),ay,Ĉl))
 done:=by ext N;ext b;ext T;ext nm;ext ll;ext ao;have hl:=üe;ext a;exact wpAny_pyNext_list_end úE st āo ćy ĕw
 self:=λ_ _ _ _ _ st h=>wpAny_pyIter_listiter st h
theorem CG[36]{K:Va}(a it:Vi):Turn P w K tg ńm [it] it (λi h=>ŀh it a i) where
 mem:=Ń
 obj:=λi h st b hb=>by
  ext b;ext bX
  ext l;ext nz;ext a;exact ńN
 keep:=ĩi
 item:=by ext N;ext b;ext T;ext mA;ext lk;ext lo;ext ao;ext a;refine wpAny_pyNext_tuple_item st įh (x:=u) ĘD ľs;ext b;ext hh;ext a;exact(u,rfl,Er (s:=Ţ) e c d ø (x,H,I1,ru,(rfl,λys hy=>by rw[I.p9 hy hq];exact hx),ay,Ĉl))
 done:=by ext N;ext b;ext T;ext nm;ext lk;ext ao;have hl:=üe;ext a;exact wpAny_pyNext_tuple_end úE st įh ćy ĕw
 self:=λ_ _ _ _ _ st h=>wpAny_pyIter_tupleiter st h
theorem CH[36]{K:Va}(it:Vi)[140][7]:Turn P w K tg Łx [it] it (λi h=>IsRangeIter h it (lo+Ąh*1) Ņh 1) where
 mem:=Ń
 obj:=λi h st b hb=>by
  ext bX
  ext l;exact(_,st,λv z=>by
   ext nc)
 keep:=ĭP
 item:=by ext N;ext b;ext T;ext ao;have W:=ŅX (prog:=X.prog) (w:=X.w) úE it lo 1 n;ext a;ext hb;refine(_,rfl,Er (s:=ü1) (n:="range_iterator") ay rfl rfl ø (.int Ĕg,H,I1,(t,?_),ÿe,ay,Ĉl));rw[ĐI]
 done:=by ext N;ext b;ext T;ext ao;ext a;exact wpAny_pyNext_range_end úE st ĭT ĕw
 self:=Ĩi
section
variable{X:Cx}
def I?[56][423][0][424](q:R (Itr lo ĘX) H):wpAny Ć X.A ļ3 ęe E Ĭn:=by
 refine wpAny_pyIter_range Ķv (small_one h1 h2 h3 h4) ?_;have I1:aG X ak Y H Ĭn:=ÿx Āl;refine(Ě_,[Ě_],_,_,H,rfl,
  ĝI (t':=tk) Āl,CH _ lo ĘX,?_,üd,q)
 .have e1:lo+ćB*1=lo:=Ń
  have e2:ĵP=İP lo hi 1:=by rw[rangeSize_one];ext bo
  show IsRangeIter _ _ (lo+ćB*1) (ĵP) 1;rw[e1,e2];ext ck
 .have e:b=Ě_:=Ćl
  ext cC
def abg(ta:TA):TI:=(λY H R=>ta Y H λvs H1=>∃j:Int,vs=ċx/\Ā2<=j/\ċJ/\R (Itr 0 ă1) H1)
def GH[254]{ta:TA}[30][268][493][262]:PI X tg ĵI (abg ta):=by
 ext bn;refine Call_ (kP I hg hm boot_range ĶN);ext b;let⟨j,e,q1,q2,q⟩:=q1;ext l;ext a;cases r1 with
 |cons r rr=>
  ext b;cases rr;ext aq;ext a;exact call_range_1 (I? I1 ø ø q1 q2 (ĆS))
def adO(wi:TI)(g:TG)(tb:TS):TS:=(λD Y H=>wi Y H λJ H1=>∃W:Nat->Nat->ùa,(∃m,W 0 m Y H1)/\∀i m Y H,W i m Y H ->
 (ĈU/\D.nx Y H)\/(ĄD/\∃N:ùa,(∀cx H',N cx H'->∃m',m'<m/\W Ē m' cx H')/\∀x H',ćZ->g x Y H' λut H2=>tb ĭj ut H2))
def uh(fp:Ve)[15]:U':=(fp.filterMap λb=>(ċW).map λo=>ĉP)
def jV[132](hb:b∈fp)(e:ûl):ĉP ∈uh fp h:=ıD (b,hb,by rw[e];rfl)
def GJ{p:Vi×Obj}(hp:p∈uh fp h):p.1∈fp/\øJ p.1=ĢM:=by
 let⟨b,hb,e⟩:=List.mem_filterMap.mp hp;cases q:ċW with
 |none=>rw[q]at e;ext g
 |some o=>
  rw[q]at e;have e':ĉP=p:=Ăc;subst e';exact(hb,q)
def aG.pinned[56][0](hf:Ča)(ho:∀b∈fp,∃o,Ŵ/\ĵc):aG X (ak++uh fp ù) Y H s:=
 I.tu λp hp=>ĻK (λz=>üM p (üX _ z)) λz=>by ext b;let⟨hb,e⟩:=GJ z;let⟨f0,f1,f2,_⟩:=hf p.1 hb;let⟨o,e',d⟩:=ho p.1 hb;ext a;rw[e]at e';cases e';exact(e,f0,f1,f2,d)
def aG.ui{pl:U'}[56](I:aG X (ak++pl) Y H s):ĥ:=I.tu λp hp=>üM p (üX _ łq)
def Se[174]{wi:TI}{g:TG}{tb:TS}[269][42](hi:Ļ3)(hg:PG X tg g)[484][153]:PS X (.For tg iter body [] pos) (adO wi g tb):=by
 ext X;refine wpAny_For (de (hi ak s Y H _ I h) λv s1 h1=>de h1 λitv s2 h2=>?_) hs;ext b;let⟨it,fp,tn,J,H2,e,I2,T,bP,f2,W,ņ8,turn⟩:=h2;ext l;ext a
 -- adP stays true of II Sf objects through II loop
 have CI:∀[200],Ć1->ı5:=λhn b hb=>(hn b hb,ńw.2)
 refine codeAny_forLoop_any (λn s'=>∃i cx H',þw/\tn i ù7/\Ć1/\W i n cx H') ?_ m0 (0,Y,H2,I2,bP,λb hb=>ńw.1,w0);intro n s3 aP;ext b;let⟨i,wn,H3,I3,kG,fr3,w3⟩:=aP;ext a;rcases turn i n wn H3 w3 with⟨stop,qn⟩|⟨go,N,hN,step⟩
 .refine wpAny_passesOwn hp (de (T.done X rfl rfl rfl hc i ak s3 wn H3 X.xe I3 Ēj kG stop) Ĳ9);subst hr;exact wpAny_execs_nil (wn,H3,I4,qn)
 .refine wpAny_passesOwn hp (de (T.item X rfl rfl rfl hc i ak s3 wn H3 X.xe I3 Ēj kG go) ıj);subst hr;refine wpAny_passesOwn hp (ĨU);ext jb;refine wpAny_passesOwn hp (de (hg _ s5 wn H5 x u _ I5' r5 ĹH) λ_ s6⟨σ6,H6,I6,q6⟩=>?_);refine wpAny_passesOwn hp (de (hb _ s6 σ6 H6 _ I6 q6) λf s7 q7=>?_);have again:∀{wr:St}{H7:Hp},aG X (ak++ŀG) wr H7 s7->N wr H7->∃m,m<n/\∃i cx H',aG X ak cx H' s7/\tn i s7.heap/\Ć1/\W i m cx H':=λ{wr H7}I7 n7=>by let⟨m',hm,w7⟩:=hN wr H7 n7;refine(m',hm,i+1,wr,H7,I7.ui,ĊG _ _ _ Sg λb hb o e=>Ķu.1,üd,w7);ext ke;exact Ķu.2.1
  cases f with
  |next=>ext jt
  |cont=>ext jt
  |brk=>let⟨wr,H7,I7,q7⟩:=q7;exact(wr,H7,I7.ui,q7)
  |ret v=>let⟨x7,wr,H7,I7,r7,q7⟩:=q7;exact(x7,wr,H7,I7.ui,r7,q7)
open e
abbrev R2:=V->ĊH
def dE(X:Cx)(f:ĥ1)(r:R2):Prop:=(
 ∀[16](x y:V)(v u:Vg)(Q:VK),ĥ->úh->ąs->Ġ7 ->
  wpAny Ć X.A ġv ø3 X.xe s)
def UnR(X:Cx)(f:Ğ')(r:ĊH):Prop:=(
 ∀[16](x:V)(v:Vg)(Q:VK),ĥ->úh->r x H Q ->
  wpAny Ć X.A (f v) ø3 X.xe s)
def aW(X:Cx)(f:Vg)(r:ýi):Prop:=(
 ∀[16][71][61](Q:VK),ĥ->ùD->r xs H Q ->
  wpAny Ć X.A (call f us) ø3 X.xe s)
def tOp(r:R2)[291]:TE:=(λY H Q=>ta Y H λx H1=>tb Y H1 λy H2=>r x y H2 Q)
def tUn(r:ĊH)(ta:TE):TE:=(λY H Q=>ta Y H λx H1=>r x H1 Q)
def rI(C:ĽC)[500]:R2:=(λx y H Q=>∃i j,ċU/\y=ø7/\C i j/\Q ÿf H)
def Na[500]:R2:=(λx y H Q=>∃i j,ċU/\y=ø7/\Q ÿf H)
def rU(g:Int->V):ĊH:=(λx H Q=>∃i,ċU/\Q ĔX H)
section
variable{X:Cx}[222]{ta tb tc:TE}
def Sh[157]{s:Vh}[300]{R:V->V->øZ}[0](h:ta Y H λx H1=>tb Y H1 λy H2=>R x y H2)[203](hf:∀v u s2 x y H2,aG X ak Y H2 s2->úh->ąs->R x y H2->wpAny Ć X.A ġv Q X.xe s2):
  wpAny Ć X.A (ěC) (λv ap=>wpAny Ć X.A (ěD) (λu dL=>wpAny Ć X.A ġv Q X.xe dL) X.xe ap) X.xe s:=by
 refine Đ8;refine de įe λu s2 ĵd=>?_;exact hf v u s2 x y H2 I2 r1 r2 q2
def abh{op:Operator}{r:R2}(ho:dE X Ļd r)[157]:PE X ı9 ďF:=by ext q;exact wpAny_BinOp ĥM
def abi{op:UnaryOp}{r:ĊH}(ho:UnR X (unaryOp op) r)[277]:PE X (ġL op a pos) (tUn r ta):=by ext q;exact UnaryOp_ (de Ăp λv s1 ÿ7=>ho ak s1 Y H1 x v Q I1 r1 q1)
def opI[203]{C:ĽC}{g:Int->ġ5}(rule:∀[319],C i j->įs):
  dE X f (rI C ļz):=by
 ext F;ext b;let⟨i,j,rfl,rfl,hc,q⟩:=h;ext C;ext aQ;ext a;exact rule i j t t' s _ _ hc įS
def Nz[203]{g:Int->ġ5}(rule:∀[319],įs):
  dE X f (Na ļz):=by
 ext F;ext lP;ext C;ext aQ;exact rule i j t t' s _ _ įS
def NA[203]{g:Int->Ġp}(rule:∀[319],Q (øk ÿf) s->ĥC):
  dE X f (Na λi j=>.bl ÿf):=by
 ext F;ext lP;ext C;ext aQ;exact rule i j t t' s _ _ (.bl ÿf,H,I,rfl,q)
def adQ[105]:Prop:=(0<=j/\j<=1000000/\Ā1<ŋ)
def Ja[105]:Prop:=((ÿm<i/\i<ŋ)\/(ÿm<j/\j<ŋ))
def Ja.ok[24](h:Ja i j):łH:=by
 rcases h with⟨h1,h2⟩|⟨h1,h2⟩
 .exact .of_left İG
 .exact .of_right İG
def CJ[22]:üC<=2 ^ k:=by rw[two_pow_cast];exact Ďc _
def Si:dE X ăh (Na λi j=>.int (i+j)):=Nz λ_ _ _ _ _ _ _ q=>add_int q
def Sj:dE X ķL (Na λi j=>.int (i-j)):=Nz λ_ _ _ _ _ _ _ q=>sub_int q
def Sk:dE X ĎE (rI Ja λi j=>ĞY):=opI λ_ _ _ _ _ _ _ hc q=>mul_int q hc.ok
def NB:dE X ķK (rI (λ_ j=>j≠0) λi j=>ĭ6):=opI λ_ _ _ _ _ _ _ hc q=>mod_int' hc q
def Sl:dE X ĳl (rI (λ_ j=>0<=j) λi j=>ĶP):=opI λi j _ _ _ _ _ hc q=>
 rshift_int hc (by rw[ĮI i (CJ _)];ext m)
def Sm:dE X ĳj (Na λi j=>Ľy):=Nz λ_ _ _ _ _ _ _ q=>and_int q
def abj:dE X Ĵr (Na λi j=>Ľw):=Nz λ_ _ _ _ _ _ _ q=>or_int q
def unI{f:Ğ'}{g:ġ5}(rule:∀[28][197](s:Vh)(Q:U!)(E:U!),Q (.int ĔX üu) þj->wpAny Ć X.A (f ĈN) Q E s):
  UnR X f (rU λi=>.int ĔX):=by
 intro ak s Y H x v Q I rx h;ext nR;ext C;exact rule i t s _ _ (.int ĔX,H,ù2,ę,q)
def Sn:UnR X (unaryOp .USub) (rU λi=>.int (-i)):=unI λ_ _ _ _ _ q=>neg_int q
open e
section
variable{X:Cx}[222]{ta tb tc:TE}
def So[56]{Q:VK}{k k':Bool}[0](q:Q (ċk) H)(e:k=k'):EP X ak Y Q (øk k') s:=by ext l;exact(ċk,H,I,rfl,q)
def abk:dE X ķM (Na λi j=>.bl (ýn)):=NA λ_ _ _ _ _ _ _ q=>lt_int q
def abl:dE X ęz (Na λi j=>.bl (ě2)):=NA λ_ _ _ _ _ _ _ q=>le_int q
def abm:dE X ę4 (Na λi j=>.bl (ďa)):=NA λ_ _ _ _ _ _ _ q=>gt_int q
def abn:dE X Ķx (Na λi j=>ĪM):=NA λ_ _ _ _ _ _ _ q=>ge_int q
def Sq:dE X ę6 (λx y H Q=>y=.cq/\Q (.bl (decide (x=.cq))) H):=by
 ext F;let⟨rfl,q⟩:=h;ext aX;refine is_none_gen (So I q ?_);cases x<;>first
  |(ext U;rfl)
  |(ext C;rfl)
def dE.or[203]{r r':R2}(h:dE X f r)(h':dE X f r'):dE X f Īq:=by
 intro ak s Y H x y v u Q I rx ry q;ext du
 .exact h ak s Y H x y v u Q I rx ry q
 .exact h' ak s Y H x y v u Q I rx ry q
def Jb(b:Expr)(h:autoParam (op≠.In) ĀQ)(h2:autoParam (op≠.NotIn) ĀQ):ČF:=by
 have e1:(op==CmpOp.In)=false:=by cases op<;>first|rfl|exact ĜK
 have e2:(op==CmpOp.NotIn)=false:=by cases op<;>first|rfl|exact absurd rfl h2
 cases b<;>simp[behindInMarks,e1,e2]
def NC{r:R2}[507][157](hm:ČF):PE X ČW ďF:=by ext q;exact wpAny_Compare1 ĥM hm
def abo(t:TE):TT:=(λY H Q=>t Y H ĭQ)
def ND{r:R2}[507][157](hm:ČF):PT X ČW (abo ďF):=by
 ext q;refine wpAny_isTrue_Compare1 (de Ăp λv s1 ÿ7=>de įe λu s2 ĵd=>
  de (ho ak s2 Y H2 x y v u _ I2 r1 r2 q2) λc s3⟨z,H3,I3,r3,k,e,q3⟩=>?_) hm
 ext l;cases r3;exact wpAny_truthy_bool (H3,I3,q3)
def uj:ĹG<ýT:=by ext dz;decide
def CK:dE X ăh (λx y H Q=>∃i j,x=.str i/\y=.str j/\i.length+j.length<=sizeLine/\Q (Ņv) H):=by ext F;ext b;let⟨i,j,rfl,rfl,hz,q⟩:=h;ext C;ext aQ;ext a;exact add_str (λt' tk=>(Ņv,H,ù2,ę,q)) hz
def vals1{x:V}[23](r:ba [x] us):ĺ0:=by
 cases r with
 |cons r1 r2=>cases r2;exact(_,rfl,r1)
def vals2[118][23](r:ba ÿQ us):∃u w',us=[u,w']/\ý2/\bh y w':=by
 cases r with
 |cons r1 r2=>
  cases r2 with
  |cons r3 r4=>cases r4;exact(_,_,rfl,r1,r3)
def Jd:aW X ĿA (λxs H Q=>∃i,xs=ċu/\Q (Ėb) H):=by ext ap;ext nR;ext kQ;exact call_abs_int λu tk=>(Ėb,H,ù2,ę,q)
open e
structure CL[15](x dx C:Vi)(mA:U?):Prop where
 obj:øJ x=some Ğr
 ns:ĝS
 ne:dx≠x
def GL(n:ĝS):∃od,øJ dx=some od/\ĩI:=by
 ext b;let⟨o,es,ep,ho,hd,hk,_,hm⟩:=n;ext a;refine(o,ho,λname=>?_);have e:=hm name;unfold nsFind findBy at e;rw[<-Array.find?_toList]at e;unfold W.lookIn;rw[hd];ext d;split
 .rename_i y q;rw[q]at e;exact ļc
 .rename_i q;rw[q]at e;have a:įF=false:=by rw[List.any_eq_false];intro y hy;let⟨z,t,Sr⟩:=hk y (ĆO hy);simp[DictEntry.refKey,Sr]
  have a':¬ įF=true:=by rw[a];ext aV
  rw[if_neg a'];exact ļc
def CL.look{x:Vi}(I:CL h x dx C mA):∃od,W.InstAt h x Ğr C (some od)/\ĩI:=
 let⟨od,ho,hl⟩:=GL I.ns
 (od,(I.obj,rfl,rfl,ho),hl)
section
variable{prog:Vk}[36]{A:Vj}[18]{K:Va}{x:Vi}{v:Vg}
def get_map{expr:Bool}[410](hh:čP)(ha:ľm=þY)(hv:ģV=Ĥ)(hv':W.handedIn v=true)(h:Q v þj):
  wpAny û A (getAttr ûw name expr) Q E s:=by
 ext fu;exact W.get_value X J ĘR.1 (W.findObj_own hh ha rfl (by rw[hl,hv])) hv' h
def Je[278]{Q:ĺf}[410](hf:ľm=ČA)(ht:ćs)(hv:ģV=none)(h:Q %[.ref f|[Ċn]] s):
  wpAny û A (getMethod ûw name pl) Q E s:=by
 ext b;ext fu;ext a;exact W.method_fn X J ĘR.1 ĘR.2 hf (ùs ht) (by show(ĺh).map (·.isSome)=Ąa;rw[hl,hv];rfl) h
def NF{ns:Vf}[128](X:ÿq)(I:ĹW)(hs:ĕA)(hp:ĘM)(ht:ĠE K C name=þY)(hh:čP)(hw:łY mA ns)(hsz:ŀL)(h:∀h',CL h' x dx C (λy=>if y=name then Ĥ else mA y)->Āu dx ù h'->Q ý9 {s with heap:=h',toks:=üu+2}):
  wpAny û A (setAttr ûw name v) Q E s:=by
 ext b;ext fu;ext a;refine W.set_plain X J hs (W.osa_open (s:=þj) (r:=none) X J hp ht λb=>?_);ext b;let⟨cd,hc,hd'⟩:=W.any_some hh;have hx:Ũ x=some (ýY,some dx,.plain,#[]):=I.obj;ext a;refine wpAny_bind (wpAny_pure (wpAny_bind (wpAny_bind (wpAny_loadPart hx (wpAny_bind (W.Looks.here (s:=þj) (W.looks_clsIn X hc) ?_))))));rw[hd'];refine wpAny_pure (a:=some dx) (wpAny_bind (wpAny_pure (ăC)));refine wpAny_nsSet1 (s:=þj) I.ns λh' hn2 cO=>?_;ext b;let⟨oD,esD,epD,hoD,hdD,hcD⟩:=hn2.count (PySem.Within.cons name v hw);ext a;refine wpAny_bind (wpAny_lookBehind hoD (by rw[hdD];exact pastItsLine_dict (ģ hcD (Āt))) ?_);exact wpAny_pure (h _ ((cO.2 _ (øv I.ne)).trans I.obj,hn2,I.ne) cO)
def Jf{R:ĀO}(X:ÿq)(hm:Ďe)(hi:Į7)(hf:W.typeIn K ú7=some (ĸ "function"))
  (h:codeAny û (A.under (Ő "type.__call__" (ýY::vs,kw))) (ąN ú7 (.ref úg::vs,kw)) (W.InitBack úg R)
   ķn):
  codeAny û A (ąN Ĝ (vs,kw)) R s:=by
 let⟨hh,g,d,t,os⟩:=s;exact W.make_core (W.makes_of X hm) (W.looks_findIn X hi) (λself=>W.bind_fn X self hf) út h
open e
def jW[113](v:V):úA->úA
 |[]=>Ģd
 |(g,x)::r=>if g=f then%[g|v]::r else%[g|x]::jW f v r
theorem rq(f g:Str)(v:V):∀fs:úA,(ĠY).lookup g=if g=f then Ĥ else Ān g
 |[]=>by
  show ĀZ g Ģd=_;by_cases h:g=f
  .have hb:(g==f)=true:=ăc h;simp only[ĀZ,hb,ùE]
  .have hb:(g==f)=false:=ú2 h;simp only[ĀZ,hb,üo]
 |ğ5=>by
  have ih:=rq f g v r;ext eb
  .rw[Ąs];by_cases h:g=k
   .ext lv;simp only[ĀZ,hb,if_pos (ģT hk)]
   .ext lg;simp only[ĀZ,hb,if_neg (λe:g=f=>h (ģP hk.symm))]
  .rw[đS];by_cases h:g=k
   .ext lv;simp only[ĀZ,hb,if_neg (λe:g=f=>hk (h.symm.trans e))]
   .ext lg;simp only[ĀZ,hb];ext aM
theorem p_[113](v:V):∀fs:úA,f∈Ĳn/\∀g,g∈ğn->g∈Ĳn
 |[]=>(Ņ7,λg h=>ûh)
 |ğ5=>by
  let⟨i1,i2⟩:=p_ f v r;ext eb
  .rw[Ąs];subst hk;exact(Ń,λg h=>ĆG)
  .rw[đS];refine(?_,λg h=>?_)
   .rw[Ą];exact š _ i1
   .rw[Ą]at h⊢;rcases ŏ h with e|e
    .exact List.mem_cons.mpr (ÿF)
    .exact š _ (i2 g e)
theorem rA[113](v:V):∀fs:úA,(ĠY).length<=Ă2+1
 |[]=>Ņ7
 |ğ5=>by
  have ih:=rA f v r;ext eb
  .rw[Ąs,ă,ă];ext c
  .rw[đS,ă,ă];ext c
def jU.some_of{v:V}{o:Vd}(r:jU ÿP o):∃u,o=Ę/\øn:=by
 cases o with
 |none=>ext bf
 |some u=>exact(u,rfl,r)
def jU.none_of{o:Vd}(r:jU none o):o=none:=by
 cases o with
 |none=>rfl
 |some u=>ext bf
def GN[137](r:øn):W.handedIn u=true:=by
 cases v with
 |cq=>cases(show u=ăN from r);rfl
 |bl b=>cases(show u=Đ4 b from r);rfl
 |int i=>ext ku;ext g;rfl
 |str x=>ext kt;ext g;rfl
 |byt b=>let⟨t,e⟩:=(show ı6 from r);ext g;rfl
 |se b=>let⟨t,e⟩:=(show ı7 from r);ext g;rfl
 |ref a=>cases(show u=þe from r);rfl
 |ty n=>cases(show ľc from r);rfl
section
variable[36][242]{a:Vi}{fs fs':úA}
def tw(bE:ĕU)(e:ģp):∃mA,CL h a dx C mA/\(Ęh)/\ĭz/\Ă2<=1000/\H dx=Ĉi:=by
 ext b;let⟨d,z,ne,ob,mA,n,r,q⟩:=(show cf P w H h a (Ĝt)from bE a _ e)
 ext a;exact(mA,(ob,n,ne),r,q,z,d)
open e
structure Es[135]:Prop where
 pg:Ĭ6
 hd:čP
 po:ĘM
 sa:ĕA
def Es.get{K:Va}(c:ĊC)[113]:ğa K C f=true:=c.pg
def jX[135][113]:Prop:=(ĚM)
def jX.abp{K:Va}[149](n:ĄJ):ĠE K C f=þY:=by unfold ĠE;rw[show ĚM from n];rfl
structure Meth[135](m:Str)(f:Vi):Prop where
 at_:ĚN
 fn:ćs
 kp:ćb
section
variable{X:Cx}[56]{a:Vi}{fs:úA}[149]{v:V}[298]
def CM[1][0][337](n:jX X.K C f)(l:Ēc)(h:∀u s',ďu->øn->Q u s'):wpAny Ć A (getAttr ś f b) Q E s:=by ext b;ext kd;let⟨u,hu,ru⟩:=Đ_ (v:=v) (o:=mA f) (by rw[<-l];exact r f);ext a;exact get_map I.nT ρ (c.get f) c.hd n hu (GN ru) (h u _ Ċv ru)
def CN{m:Str}{g:Vi}[278]{Q:ĺf}[0][337](k:Meth X.K C m g)(l:Ān m=none)(h:Q %[.ref g|ùd] s):wpAny Ć A (getMethod ś m pl) Q E s:=by ext b;ext kd;have hn:mA m=none:=jU.none_of (by rw[<-l];exact r m);ext a;exact Je I.nT ρ (c.get m) k.at_ k.fn hn h
def CO[246][128][0][337](n:jX X.K C f)(hl:ĉO)[80](h:∀s',aG X ak Y (upd H a Į9) s'->ĒU):wpAny Ć A (setAttr ś f u) Q E s:=by
 ext b;let⟨mA,ρ,r,wi,_,ho⟩:=tw I.bE e;ext a;have hz:(ğn).length<=sizeLine:=ĭb
 refine NF I.nT ρ c.sa c.po n.abp c.hd wi hz λh' O' sb=>h _ ?_;have hd:∃o,ùn dx=Ă:=let⟨o,_,_,e',_⟩:=O'.ns;(o,e')
 refine ģx (x:=a) (e:=dx) Ćz (.inr ho) (λb q hb z=>Ĵt z) hd ?_;refine(by rw[aO ρ.ne];exact ho,?_,ρ.ne,O'.obj,_,O'.ns,Ĥw,λg hg=>?_)
 .have:=rA f y fs;ext c
 .show jU ((jW f y fs).lookup g) ĬU;rw[rq];by_cases q:g=f
  .rw[üx,üx];exact ry
  .rw[ýR,ýR];exact r g
 .by_cases q:g=f
  .rw[q];exact Ŀi.1
  .refine Ŀi.2 g (wi g λz=>hg ?_);show ĬU=none;rw[ýR];ext o
def aG.made[0]:aG X ak Y (upd (upd H ü (.own úg)) úg (ĿL))
  ķn:=by
 have e1:(Ċa).get? ü=some ėc:=č0 ù rfl;have e2:(ĥO).get? úg=some (ġe):=by have:=č0 (Ċa) (o:=ġe) rfl;rwa [ûb]at this
 have e3:(Ċa).Ns ü (ĉl):=(ėc,#[],_,e1,rfl,(λe he=>absurd he Ĉ),ù')
 have I1:=úQ (a:=s.heap.objs.size) (o:=.own úg) (h':=Ċa) (t':=s.toks) ĳx ě ģb;refine ģy (a:=ø_) (o:=ĿL) (t':=s.toks) ĳx (łP (ûb _ _)) ?_;have ne:ü ≠ø_:=œ ĕa;refine(by rw[aO ne,bg],ùM,ne,e2,ĉl,(Heap.Ns1.of_empty e3).at λo q=>Ĕa,λ_=>üi,λy hy=>absurd rfl hy)
def NG{prog:Vk}[36][301][149]{s:Vh}(hb:attributeBase e f env (ğl)=ğl)(h:wpAny û A (ğl) (λo ap=>wpAny û A (getAttr o f true) Q E ap) E s):wpAny û A (eval ĻF env) Q E s:=
 Attribute_any_ h (by rw[arm_eval_Attribute,hb])
open e
def adR(K:Va)(ta:TE)[113]:TE:=(λY H Q=>ta Y H λx H1=>∃a C dx fs v,øo/\H1 a=Čq/\ĊC/\ĄJ/\Ēc/\Q v H1)
def adS(K:Va)(ta tv:TE)[113]:TS:=(λD Y H=>tv Y H λy H1=>ta Y H1 λx H2=>∃a C dx fs,øo/\H2 a=Čq/\ĊC/\ĄJ/\ĉO /\
 D.nx Y (upd H2 a Į9))
section
variable{X:Cx}[149]{ta tv:TE}
def Su(he:PE X e ta)(hb:attributeBase e f Ā Ĕ4=Ďz):PE X ĻF (adR X.K ta f):=by ext q;refine NG hb (de ĂU λu s1⟨x,H1,I1,rx,a,C,dx,fs,v,ex,ea,c,n,l,q⟩=>?_);ext be;exact CM I1 ea c n l λu' s2 I2 ru=>(v,H1,I2,ru,q)
def Sv(ha:Ġy)[473](hs:ĦC):PS X Īl (adS X.K ta tv f):=by ext X;refine plainObj_wpAny_Assign_Attribute (de Ĳm λu s1⟨y,H1,I1,ry,q⟩=>de (ha ak s1 Y H1 _ I1 q) λov s2⟨x,H2,I2,rx,a,C,dx,fs,ex,ea,c,n,l,q2⟩=>?_) hs;subst ex;obtain rfl:ov=þe:=rx;exact CO I2 ea c n l ry λs3 I3=>(Y,_,I3,q2)
open e
section
variable{X:Cx}[56][298]{c:Vg}[1]
inductive sf(K:Va)(H:Hp):V->Ģb where
 |cq:sf K H .cq (ĸ "NoneType")
 |bl (x:Bool):sf K H (.bl x) (ĸ "bool")
 |int [28]:sf K H ļ Ĝr
 |str [21]:sf K H üN (ĸ "str")
 |se (x:UInt64):sf K H (.se x) (ĸ "float")
 |lst {a:Vi} [144] (e:H a=ĢS):ľL
 |jl {a:Vi} [100] [144] (e:H a=ĺN):ľL
 |tup {a:Vi} [144] (e:H a=ĉL):sf K H ś ąI
 |dK {a:Vi} [72] [168]:Ľ_
 |dT {a:Vi} [185] [279]:Ľ_
 |ins {a C dx:Vi} {fs:úA} (e:ģp) (cl:ĊC) (ha:Ć' K Ĝ "__class__" = ĢN)
   (hn:W.specialIn K ąB "__get__" = ĢO) (htk:W.takesIn K ąB=Ğ)
   (hm:W.mroIn K C (Ĝ4)=Ğ):sf K H ś Ĝ
def fA{x:V}{u t:Vg}[0](rx:ý2)(ty:sf X.K H x t)(e:ù_ X.K t c=ġ)[425]:
  wpAny Ć A (call Ă5 [u,c]) Q E s:=by
 cases ty with
 |cq=>cases(show u=ăN from rx);exact ýy W.kitx_none I.nT üi e ûU h
 |bl y=>cases(show u=Đ4 y from rx);exact ýy W.kitx_bool I.nT üi e ûU h
 |int i=>let⟨t,q⟩:=(show ČY from rx);ext M;exact ýy W.kitx_int I.nT üi e ûU h
 |str y=>let⟨t,q⟩:=(show ∃t,u=ĠD y t from rx);ext M;exact ýy W.kitx_str I.nT üi e ûU h
 |se y=>let⟨t,q⟩:=(show ∃t,u=ŅS y t from rx);ext M;exact ýy W.kitx_float I.nT üi e ûU h
 | @lst a xs ea=>
  ext bk;ext b;let⟨_,_,n,_,h1⟩:=(show cf Đ X.w H ù a þu from ĈE)
  ext a;ext iW
 | @jl a ob xs ea=>
  ext bk;ext b;let⟨_,_,_,n,_,h1⟩:=(show cf Đ X.w H ù a (.jl ob þu)from ĈE)
  ext a;ext iW
 | @tup a xs ea=>
  ext bk;ext b;let⟨_,_,_,p⟩:=(show cf Đ X.w H ù a ĀK from ĈE)
  let⟨o,h1,h2,_⟩:=p;ext a;ext iX
 | @dK a aA ea=>
  ext bk;ext b;let⟨_,_,vs,_,p⟩:=(show cf Đ X.w H ù a ü5 from ĈE)
  let⟨o,es,ep,h1,h2,_⟩:=p;ext a;ext iQ
 | @dT a aA ea=>
  ext bk;ext b;let⟨_,_,xs,_,o,es,ep,h1,h2,_⟩:=(show cf Đ X.w H ù a Đd from ĈE)
  ext a;ext iQ
 | @ins a C dx fs ea cl ha hn htk hm=>
  ext bk;ext b;let⟨mA,ρ,_⟩:=tw I.bE ea;let⟨od,J,_⟩:=ρ.look;ext a;exact ýy (W.kitx_own (cl.get _) cl.hd ha hn htk hm) I.nT J e ûU h
open e
structure dI[22](A:Vj):Prop where
 hd:Čd
 dp:ēv+3*k+5<recursionLimit
 un:ýk+16*k+200<cLine
def dI.mono[20][360](h:j<=k):dI j A:=(r.hd,ĳV,ĳW)
def dI.deeper[20]{A:Vj}(r:dI øe A)[237]:dI k (þX env):=
 (r.hd,by have:=r.dp;show ēv+1+3*k+5<_;ext c,by have:=r.un;show ýk+3+16*k+200<_;ext c)
def CP{A:Vj}[23]:(Čk).depth=ēv+1:=by
 first|rfl|simp[Ĝy,Code.weight,Code.isCreation,Code.isGuard,Code.isCaller,Ņz,ĜA,guardIds]
def CQ{A:Vj}[23]:(Čk).units=ýk+1:=by
 first|rfl|simp[Ĝy,Code.cUnits,Ņz,ĜA]
def dI.make[20]{A:Vj}(r:dI øe A)(C:Vi)[61](kw:ć0):dI k (Čk):=
 (r.hd,by have:=r.dp;rw[CP];ext c,by have:=r.un;rw[CQ];ext c)
def dI.depth[20][360]:ēv<recursionLimit:=ĳV
def dI.units[20][360]:Ĝ3:=ĳW
def abq:TA:=(λ_ H Q=>Q [] H)
def QV(ta:TE)(tr:TA):TA:=(λY H Q=>ta Y H λx H1=>tr Y H1 λxs H2=>Q (úY) H2)
section
variable{X:Cx}{te:TE}{t:TA}
def p!:PA X [] abq:=λ_ _ _ _ H Q I h=>ęC ķI
def g_(ha:āc)(hr:Ġx)[182]:PA X ŵ ńn:=by ext mj;rw[hs];show wpAny _ _ (spliced (Āh::ČP)) _ _ s;refine Ďb (de Ăp ľw);exact Ħl
def adT(t:TA):TE:=(λY H Q=>t Y H λxs H1=>ùX/\∀p,H1 p=none->Q øA (upd H1 p ĀK))
def adU(t:TA):TE:=(λY H Q=>t Y H λxs H1=>ùX/\∀p,H1 p=none->Q øA (upd H1 p þu))
def Sw{x1}(h:Ġx):PE X (.Tuple es x1 pos) (adT t):=by ext ne;refine wpAny_Tuple_spliced ĥu;ext md;refine(.ref Œ,upd H1 Œ ĀK,ĨG,rfl,q _ hf);exact(z,us,r,(_,ùh,rfl,_,rfl))
def Sx(h:Ġx):PE X Ĺe (adU t):=by ext ne;refine wpAny_List_spliced ĥu;ext md;refine(.ref Œ,upd H1 Œ þu,ĨG,rfl,q _ hf);exact(z,us,0,r,ùh)
open e
abbrev Sp:=ķ->Hp->VK->XK->Prop
abbrev Cs:=ûj->Hp->Vh->XK->ģF
structure CS[120][326]:Prop where
 frames:A.frames=some outer
 mod:Mod K mg base
 bs:∀b o,base.get? b=Ă->Ŵ/\ŷ
 Nn:base.objs.size<=ü
 m8:ća base outer
 IV:∀b∈ĈB,ŷ
 bE:jF P w H ù
 bare:ĽA
def CE[288](P:Vk)[27][134](Q:VK)(u:Vg)[83]:Prop:=(
 ∃v H',ğz/\Ď4/\Un (ĈB) [] H H' ù ù7/\ŀk/\øn/\Ĕq)
def CR(CX:Cs)[288](P:Vk)[27][134](Q:VK)(E:XK)(r:Result)[83]:Prop:=(
 match r with
 |.ok (.ret u)=>İQ
 |.ok _=>False
 |ġM=>CX outer H s E e s')
structure gN[120](CX:Cs)[22](f:Vi)[353](ps:Vf)(sp:Sp):Prop where
 len:ĖL
 run:∀[326](args:Args)[61][110](Q:VK)(E:XK),dI k A->Ė5->BindsTo s fd args ČZ->ĄH->ĈK ->
  codeAny ýh A (ąN ú7 args) (CR CX outer P w H s Q E) s
def gN.imp[36][124]{CX:Cs}[20][44][152]{sp sp':Sp}(F:gN P w K mg base CX k f fd ps sp)(h:∀vs H Q E,sp' vs H Q E->ĈK):gN P w K mg base CX k f fd ps sp':=
 (λvs H Q E q=>ċp vs H Q E (h _ _ _ _ q),λA outer s H args us vs Q E hr he hb hv hs=>F.run A outer s H args us vs Q E hr he hb hv (h _ _ _ _ hs))
def CS.make[36][124]{A:Vj}[368]{s:Vh}{H:Hp}(e:Ė5)(C:Vi)[61](kw:ć0):
  CS P w K mg base (Čk) outer s H:=(by first|exact e.frames|(simpa[Ĝy,Code.envs,ĜA,pushEnvs]using e.frames),e.mod,e.bs,e.Nn,e.m8,e.IV,e.bE,e.bare)
section
variable{X:Cx}[300]{s s':Vh}
def aG.Sy[0]:CS Đ X.w X.K X.mg ùb X.A øt s H:=
 (ĐG,ĒS,I.bs,ĺT,ģw,I.yA,I.bE,øS)
def aG.after{Q:VK}{u:Vg}[0](h:CE øt Đ X.w H s Q u s'):EP X ak Y Q u s':=by ext b;let⟨v,H',os,bare,un,bE,r,q⟩:=h;let⟨hh,g,d,t,os'⟩:=s';ext a;obtain rfl:os'=s.os:=os;exact(v,H',I.call (h':=hh) (g':=g) (d':=d) (t':=t) (ch:=[]) un bE bare (Ĵ'),r,q)
open e
def abr[341](t:TA):TE:=(λY H Q=>t Y H λvs H1=>sp āa H1 Q E)
def Jg(C:Vi)(m:Str)[341](ta:TE)(t:TA):TE:=(λY H Q=>ta Y H λx H1=>∃a dx fs,øo/\H1 a=Čq/\Ān m=none /\
 t Y H1 λvs H2=>sp (x::āa) H2 Q E)
def abt(C:Vi)[341](t:TA):TE:=(λY H Q=>t Y H λvs H1=>∀x dx,H1 x=none->H1 dx=none->dx≠x ->
 sp łl (upd (upd H1 dx Ēh) x Ěo) ĭ4 E)
def Binds(K:Va)[353](ps:Vf)(ds:Vc):Prop:=(
 ∀(s:Vh)[61],ÿq->Ĳs->BindsTo s fd ÿV (ps.zip ĐX))
def Binds.all{K:Va}[44][152](h:∀us:Vc,āN->bindArgs fd ÿV=Ċh):ćE:=λs us _ hl=>by rw[ń]at hl⊢;exact .of_eq (h us hl)
def Passes(CX:Cs)[104]:Prop:=(∀(ak:U')(Y:St)[134](e:Vg)[83],ĥ->CX øt H s E e s'->X.xe e s')
section
variable{X:Cx}{CX:Cs}[20][44][152]{sp:Sp}{xk:ķ}{ds:Vc}{E:XK}{x m:Str}[30]{ta:TE}{t:TA}
def Jh[56]{Q:VK}[23][17][208][127][207][0](r:ĄH)(h:sp āa H Q E):wpAny Ć X.A (call ú7 us) ø3 X.xe s:=by
 have r2:ba āa ĐX:=ĄM hd;have hl:Ĳs:=by rw[<-đ6];exact ċp _ _ _ _ h
 refine wpAny_call (codeAny_mono (F.run X.A øt s H ÿV ĐX āa Q E hr I.Sy (hb s us I.nT hl) r2 h) ě');cases r with
 |error e=>exact hx ak Y H s e s' I hq
 |ok fl=>
  cases fl with
  |ret u=>exact I.after hq
  |next=>ext bu
  |brk=>ext bu
  |cont=>ext bu
def NH[208][127][45](hm:ýM=ĉK)(hk:ă6 X.K ú7=true)[207][125][48]:
  PE X ÿ6 (abr sp xk E t):=by
 ext q;ext er;refine ĜG (h₀:=X.base) ĐH hk ħO he g!;exact Jh F hr hb hd hx I1 r q
def NI[278](he:Ġy)(c:ġ1)(hm:Meth X.K C m f)[208][127][207][125](CD:Ći)[317]
  (ht:eval īk Ā=(do
   let ov <- ü_
   standAt apos.atName
   let%[f|first] <- holding [ov] (getMethod ov m pl)
   callWith pos f first (ĖZ) (backToKw pos ıw)):=by rfl):
  PE X īk (Jg C m sp xk E ta t):=by
 ext q;refine W.methodCall_KW (pl:=pl) (de ĂU λu s1⟨x,H1,I1,rx,a,dx,fs,ex,ea,l,q⟩=>?_) ht;ext be;refine CN I1 ea c hm l ?_;refine ĜG (first:=ùd) (h₀:=X.base) ĐH hm.kp (de (ha pos ak s1 Y H1 _ I1 q) λus s2⟨vs,H2,I2,r,q2⟩=>(I2.nT,?_)) CD g!;exact Jh (us:=Ņ::us) (vs:=Ņ::vs) F hr hb hd hx I2 (Ċ rfl r) q2
structure Mk(K:Va)(C f:Vi):Prop where
 makes:Ďe
 init:Į7
 fn:ćs
 kp:Ğg
def Ji[56]{Q:VK}[23][17](M:Mk X.K C f)[208][345][207][0](r:ĄH)(h:∀x dx,H x=none->H dx=none->dx≠x->sp łl (upd (upd H dx Ēh) x Ěo) ĭ4 E):
  wpAny Ć X.A (call Ĝ us) ø3 X.xe s:=by
 have hq:=h úg ü (ĈT (ĎJ)) āz (œ ĕa);have I2:=aG.made (C:=C) I;have r2:ba (V.ref úg::āa) łk:=Ċ rfl (ĄM hd);have hl:(Ĥo++ds).length=þo:=by have e:=đ6;rw[ċp _ _ _ _ hq]at e;ext dF
 refine wpAny_call (Jf (f:=f) I.nT M.makes M.init (ùs M.fn) (codeAny_mono (F.run _ øt _ _ (Ĥo,[]) łk _ _ E (hr.make C us [])
  (I2.Sy.make C us []) (hb _ (Ĥo) I2.nT hl) r2 hq) λr s' hq'=>?_))
 cases r with
 |error e=>exact hx ak Y _ _ e s' I2 hq'
 |ok fl=>
  cases fl with
  |ret u=>
   ext b;let⟨v,H',I3,rv,ev,q3⟩:=I2.after hq';subst ev;ext a;exact(rv,(V.ref úg,H',I3,rfl,q3))
  |next=>ext gB
  |brk=>ext gB
  |cont=>ext gB
def NJ(M:Mk X.K C f)[208][345][45][359][207][125][48]:
  PE X ÿ6 (abt C sp xk E t):=by
 ext q;ext er;refine ĜG (h₀:=X.base) ĐH M.kp ħO he g!;exact Ji M F hr hb hd hx I1 r q
open e
def PK(X:Cx)(Jj:ćA)(t:TA):Prop:=(
 ∀(pos:Pos)[16](Q:ēg),ĥ->ýX->wpAny Ć X.A (evalAll (ĻJ)) ĺ4 X.xe s)
section
variable{X:Cx}{CX:Cs}[20][44]{ps ks:Vf}{sp:Sp}{E:XK}{x m:Str}{p adV:Pos}{Jj:ćA}{te ta:TE}{t tk:TA}{nm:Option Str}
def Jk:PK X [] abq:=λ_ _ _ _ H Q I h=>wpAny_evalAll_nil ķI
def Et(ha:āc)(hr:PK X Jj t):PK X ((nm,e,adV)::Jj) ńn:=by ext mj;show wpAny _ _ (evalAll ((do let v <- Ďz;standAt pos;pure v)::ĻJ)) _ _ s;refine wpAny_evalAll_cons (wpAny_bind (de Ăp λu s1 ÿ7=>wpAny_bind (wpAny_standAt üI)));exact Ħl
variable{g:Vc->Vc->Vc}{gV:ķ->ķ->ķ}
open e
structure dw(N P:Vf)[375]:Prop where
 kind:ņA
 co:ĳ4
 gen:ĳ5
 nd:ēC
 pre:łN
 par:ńb
 SA:Įt
theorem xn[272][4]:∀{binds:ć0}{m:U?},įi->bindL kindOf binds m x=m x
 |[],_,_=>rfl
 |(n,v)::r,m,h=>by
  ext gM;rw[xn ı4];split
  .ext jy
   simp[this]
  .rfl
theorem xo[272][4]:∀{binds:ć0}{m:U?},įi->bindC kindOf binds m x=m x
 |[],_,_=>rfl
 |(n,v)::r,m,h=>by
  ext gL;rw[xo ı4];split
  .rfl
  .ext jy
   simp[this]
theorem xq[272][4]{v:Vg}:∀{P:Vf}{vs:Vc}[64]{m:U?},P.Nodup->P[i]?=ī->đf->kindOf x=ùZ ->
  bindL kindOf (ġ') m x=Ĥ
 |[],_,_,_,_,h,_,_=>ûh
 |_::_,[],_,_,_,_,h,_=>ûh
 |p::P,w::vs,0,m,nd,h1,h2,hk=>by ext kU;show bindL kindOf č_ m p=_;ext gM;rw[xn İx,Ąs];simp
 |p::P,w::vs,i+1,m,nd,h1,h2,hk=>by show bindL kindOf č_ m x=_;ext gM;exact xq (i:=i) Ėx.2 (ęL) Ĳc hk
theorem xr[272][4]{v:Vg}:∀{P:Vf}{vs:Vc}[64]{m:U?},P.Nodup->P[i]?=ī->đf->kindOf x≠ùZ ->
  bindC kindOf (ġ') m x=Ĥ
 |[],_,_,_,_,h,_,_=>ûh
 |_::_,[],_,_,_,_,h,_=>ûh
 |p::P,w::vs,0,m,nd,h1,h2,hk=>by ext kU;show bindC kindOf č_ m p=_;ext gL;rw[xo İx,đS];simp
 |p::P,w::vs,i+1,m,nd,h1,h2,hk=>by show bindC kindOf č_ m x=_;ext gL;exact xr (i:=i) Ėx.2 (ęL) Ĳc hk
def start(N:Vf)[110]:St:=(Ċ1 some++ŝ (ĀH-Ş) none)
def iB(CX:Cs)[120](N:Vf)[373](scope:Scope)(f:Vi)(cd:Vg)[326](E:XK):Cx where
 prog:=P
 w:=w
 K:=K
 mg:=mg
 base:=base
 A:=þX (Ăq)
 N:=N
 cr:=s
 jp:=H
 env:=Ăq
 outer:=outer
 stack:=Ăq::outer
 ex:=[]
 calm:=true
 fn:=Ēe
 pn:=[]
 xe:=λe s'=>wpAny ýh (þX (Ăq)) (leaving (Ăq) e) (λ_ s''=>CX outer H s E e s'') (λe' s''=>CX outer H s E e' s'') s'
def AG{sc:Scope}[3][4](h:Ĥp):∃c,(cellsFrom n ĢL []).lookup x=ň:=by have q:=ĺg ĢL n [] ĕb;exact Option.isSome_iff_exists.mp q
def GO{CX:Cs}[36][124]{N ps:Vf}[292][67]{cd:Vg}{A:Vj}[368]{s s1:Vh}{H:Hp}{E:XK}[23][17][478](hd:Čd)(e0:Ė5)(hl:Ş=þo)(r:ĄH)(x:InCallC s ü (bindL Ľm ČZ ĉl) (ĵ2) (bindC Ľm ČZ ĉl) s1):
  aG (ħw) [] ď3 H s1:=by
 have g!:þo<=ĀH:=by have:=congrArg ýs S.pre;rw[þv]at this;ext c
 ext b;let⟨h1,tk,rfl,hk⟩:=x.done;have noA:∀b:Vi,b ∉ (ħw).ex:=λb z=>ĪQ;ext a;refine((e0.mod,S.kind,rfl,rfl,ł,λy z c h1 h2=>?_,λy hy=>?_,λy c _ h=>?_,λ_=>hd,Around.frames_deeper e0.frames,.inr ÿe,ıg,e0.bs,e0.Nn,λb _ _=>noA b,ıg,e0.m8,e0.IV),
  rfl,e0.bare,ēE hk,(_,x.toInCall.ns,λi y v h1 h2 h3=>?_),λy c h=>(_,x.cell y c h),ņa ě,λy c h=>?_,Ĩv,e0.bE.kept hk,?_)
 .exact name_of_addr x.apart (ćh h1) (ćh h2)
 .have hy:Āk y=ýf\/Āk y=þJ:=hy;rcases hy with hy|hy
  .exact AG hy
  .exact absurd rfl (S.SA _ (ćh hy))
 .exact įL
 .have hi:i<Ş:=by
   ext on;by_cases hi:i<Ş
   .exact hi
   .rw[úl ĘC]at h2;rw[Č9]at h2;split at h2<;>cases h2
  ext b;have ha:đf:=by
   ext on;rw[øW ĘC,ĭ]at h2;cases e:vs[i]? with
   |none=>rw[e]at h2;ext ab
   |some a=>rw[e]at h2;ext ab;rfl
  let⟨u,hu,rv⟩:=r.get ha;have hp:ps[i]?=ûE:=by rw[<-S.pre,List.getElem?_take_of_lt ø];ext an
  ext a;have ndP:ps.Nodup:=by rw[<-S.pre];exact S.nd.sublist (List.take_sublist _ _)
  refine(u,rv,?_);rcases S.par y (øC hp)with k|k
  .exact .inl (k,xq ndP hp hu k)
  .ext b;let⟨c,e⟩:=AG (n:=ø_) k;ext a;refine .inr (Ċy,c,e,?_);have q:=x.cell y c e;rw[xr ndP hp hu (by show Āk y≠_;rw[k];decide)]at q;ext m
 .exact ņa (įL)
 .unfold start;show _=ĀH;rw[Ď,č,þi];ext c
def abu{CX:Cs}[36][124][20][292]{params:Arguments}[174][67]{dV kV pm ct oc:Vg}{od:úM}{N ps:Vf}{sp:Sp}(lk:ċZ=some (oc,od,ā1 ĦF,IJ))(AF:ėT)[478](len:ĖL)
  (Jl:∀ (A:Vj) [288] (s:Vh) (H:Hp) [110] (Q:VK) (E:XK),dI k (þX (envOfC qual scope ü f d5))->ĈK ->
   ∃t,kM ĕS body t/\Ĩg):
  gN P w K mg base CX øe f ĦF ps sp:=by
 refine(len,λA outer s H args us vs Q E hr e0 hb r QW=>?_);have hl:=len _ _ _ _ QW;have KX:ÿq:=e0.mod.QP.keeps İu;have lim:s.heap.NoLimit:=e0.mod.nolimit.keeps İu;have abv:∀y∈ps.zip us,Āk y.1=ùZ\/(Āk y.1=ýf/\((ĵ2).lookup y.1).isSome=true):=λ⟨n,v⟩hy=>by
  rcases S.par n (Ėz hy).1 with q|q
  .exact .inl q
  .exact .inr (q,ĺg _ _ _ ĉn)
 refine codeAny_call_function hr.depth (KX _ _ lk) rfl S.co S.gen rfl (W.codeRec_of KX AF) (hb _ _ _ _ ?_);refine wpAny_newFunctionEnv_cells S.kind abv λenv he s1 x=>?_;subst he;refine(lim.keeps x.toInCall.keep,codeAny_func ?_);ext b;let⟨t,ht,hq⟩:=Jl A outer s H vs Q E (hr.deeper _) QW;have I:aG ĕS [] ď3 H s1:=GO S hr.hd e0 hl r x;ext a;refine wpAny_mono (ht [] s1 ď3 H _ I hq) (λfl s' hs=>?_) λe s' hs=>hs;have fin:∀{cx:St}[200][137],aG ĕS [] cx H' s'->øn->Ĕq->İQ:=
  λ{cx H' v u}J rv q=>(v,H',J.os,J.bare,J.base,J.bE,rv,q)
 cases fl with
 |ret u=>
  ext b;let⟨v,cx,H',J,rv,q⟩:=hs;ext a;exact fin J rv q
 |next=>
  ext b;let⟨cx,H',J,q⟩:=hs;ext a;exact fin (v:=V.cq) (u:=Value.none) J rfl q
 |brk=>
  ext b;ext nx;ext a;exact þz q
 |cont=>
  ext b;ext nx;ext a;exact þz q
section
variable{X:Cx}[4][30]{t:TA}{id T:String}{r:ýi}
def tCB(r:ýi)(t:TA):TE:=(λY H Q=>t Y H λvs H1=>r vs H1 Q)
def oM(hc:aW X þR r)[86][339][125][65][48]:Ķ5:=by ext q;ext ep;exact PyProof.Rows.callWith_builtin1 Ħs he g!
def GP(hc:aW X Ą_ r)[86](hv:ĎT)[125][65][48]:Ķ5:=by ext q;ext ep;exact ĕV Ħs he g!
open e
open e _A
variable {H H' jp:_A.Hp}
variable [36]
variable {fs:þ}
variable {X:_A.Cx}
variable {N:ĉC}
variable {A:Around}
variable {E:_A.XK}
variable [107]
variable {te td:_A.TE}
variable {wi:_A.TI}
variable {prog:Program}
variable {ns:Vb}
variable {CX:_A.Cs}
variable {sp:_A.Sp}
variable {tt:_A.TT}
variable {J:_A.It}
variable {D:_A.Ends}
namespace _B
open PyProof.Rows
section
variable[18]
def NK{t b:Vi}{ws:Vc}(ht:IsTup ù t øH)(hb:IsTup ù b đh)(hv:vs≠[])(h1:ws=[]->Q ÿd s)(h2:ws≠[]->Q øV {s with heap:=ø0 {cls:=ùk,data:=.seq ĶJ} })(hsz:Ş+ûi<=sizeLine):wpAny û A (binaryOp .Add ÿd þb) Q E s:=by
 ext b;let⟨Ĵc,ho,hc,n,hd⟩:=id ht;let⟨ım,oG,tD,n2,hd2⟩:=id hb;ext a;ext jj;have e:øH++đh=ĶJ:=Ń
 by_cases hw:ws=[]
 .exact concat_meets ĝe ĝf noFill_tuple_add seq_tuple_add ė' ėR ĖP
   (tuple_addW1 t b øH đh n n2 dd dd2 sl sl2 Ĳd (by simp[hw])) (ho,oG,h1 hw)
 .refine concat_meets ĝe ĝf noFill_tuple_add seq_tuple_add ė' ėR ĖP
   (tuple_addW2 t b øH đh n n2 dd dd2 sl sl2 Ĳd Ĳe (by rw[Ľ,Ľ];exact hsz)) (ho,oG,?_)
  rw[e];exact h2 hw
def f'[296]:Ū->Nat
 |none=>d
 |Ĥ=>ĖD
def AH[296]:f' n d none=d:=rfl
def Eu(n d k:Nat):f' n d ĝy=min k n:=by show(if øF<0 then(øF+úC).toNat else min (k:Int).toNat n)=min k n;rw[Ŗ,ú6]
def SD[296](hd:d<=n)(o:Ū):f' n d o<=n:=by
 cases o with
 |none=>exact hd
 |some v=>
  show(ĖD)<=n;by_cases hv:v<0
  .rw[if_pos hv];ext c
  .rw[if_neg hv];exact Nat.min_le_right _ _
def Ew[148][296]:Ĩp=((f' n d ÿP:Nat):Int):=by
 show Ĩp=(((ĖD):Nat):Int);by_cases hv:v<0
 .simp only[if_pos hv];ext c
 .simp only[if_neg hv];ext c
def CT[89][7]:ļs=%[čs|İB]:=by
 have h1:¬ (ÿw<0):=ø
 unfold ħ0;simp only[h1,if_false];refine Prod.ext ?_ ?_
 .cases lo with
  |none=>rfl
  |some v=>exact Ew v n 0
 .cases hi with
  |none=>rfl
  |some v=>exact Ew v n n
def CU[239]:Č0 ùx ù0 1=j-i:=by
 unfold Č0;have h1:ÿw>0:=ø
 simp only[h1,if_true,Int.ediv_one];ext bo
def uk{v:Vg}{o:Ū}{Q:Ū->øE}(p:IsPart v o)(h:Q o s):wpAny û A (Builtin.Slice.slicePartIndex v) Q E s:=by
 cases p with
 |none=>exact slicePart_none h
 |int i t=>exact slicePart_int h
def p?{sl:Vi}{vl vu:Vg}{lo hi:Ū}[3]{Q:Int×Int×Nat->øE}[404](h:Q %[čs|%[1|f' n n hi-f' n 0 lo]] s):wpAny û A (ĮE đs (pure úC)) Q E s:=by ext b;ext kP;ext a;unfold ĮE Builtin.Slice.sliceFields;refine wpAny_bind (wpAny_bind (wpAny_field hos hds (x:=vl) rfl (wpAny_bind (wpAny_field hos hds (x:=vu) rfl (wpAny_bind (wpAny_field hos hds (x:=ė) rfl üI))))));refine wpAny_bind (slicePart_none ?_);show wpAny _ _ (if(ÿw==0)=true then _ else _) _ _ s;rw[Ŗ];refine wpAny_bind (uk pl (wpAny_bind (uk pu (Ğf))));show wpAny _ _ (match ļs with|(lo,hi)=>pure %[lo|%[ÿw|Č0 lo hi 1]]) _ _ s;rw[CT lo hi n];show wpAny _ _ (pure %[čs|%[ÿw|Č0 čs İB 1]]) _ _ s;rw[CU];ext bE
def Jm(xs:Ů)(i k:Nat):((û2 k).filterMap Ķn).toArray=(Ľg k).toArray:=by
 have e:(Ķn)=ŀZ:=by
  funext m;have:Ĩ0=i+m:=ø
  ext aK
 rw[e];have:=pick_run xs i k;rw[List.filterMap_map]at this;have e2:((λx=>xs[x]?) ∘ λx=>i+x)=ŀZ:=rfl;ext gH;ext aK
def oN{t sl:Vi}[133]{vl vu:Vg}{lo hi:Ū}(ht:IsTup ù t items)[404](hw:¬ (ćT=0/\ĎL=ûP))(h:Q øV {s with heap:=ø0 {cls:=ùk,data:=ĶT} })(hsz:ûP<=sizeLine):wpAny û A (getItem ÿd đs) Q E s:=by
 have Ex:sizeOk (ĶT):=by show(Ĥ1).toArray.size<=sizeLine;rw[Ľ,þv,ćG,Ĩ];ext c
 have hj:ĎL<=ûP:=SD _ _ ě hi;ext kP;have hTs:Ā_ đs "slice":=(os,hos,NL)
 unfold getItem
 try with_reducible refine čI
 first|ext Q|skip
 refine wpAny_bind (wpAny_sequenceKey đR ø ?_);refine wpAny_bind (wpAny_callSpecial?_slot (name:=ėx "__getitem__") đR ī_
  (wpAny_call_entry ī_ đR entry_tuple_getitem ?_ (args_tuple_getitem _ _)))
 show wpAny _ _ (Builtin.Tuple.tupleItemsOf ÿd >>= _) _ _ s;refine wpAny_bind (tupleItemsOf_ ht ?_);refine wpAny_bind (wpAny_typeOf hTs ?_);rw[øj];refine wpAny_bind (p? hs pl pu ?_);have hno:¬ (ĥJ):=by intro q;rw[úx,úx]at q;have q1:ķx=0:=eq_of_beq q.1.1;have q2:ĎL-ćT=ûP:=eq_of_beq q.2;exact hw ĞP
 show wpAny _ _ (if ĥJ then _ else _) _ _ s;rw[if_neg hno,Jm]
 first
  |exact ĥv
  |exact wpAny_bind (m:=ėp) (wpAny_newObj_type (wpAny_bind ĶK) Ex)
  |exact wpAny_bind (wpAny_bind (m:=ėp) (wpAny_newObj_type ĶK Ex))
  |exact wpAny_bind (ĥv)
open e
open e _B
namespace _A
open PySem.Spec PyProof.Rows
abbrev TO:=St->Hp->(Ū->øZ)->Prop
def PO(X:Cx)(e:ĐM)(t:TO):Prop:=(
 ∀[16](Q:Ū->øZ),ĥ->ýX ->
  wpAny Ć X.A (evalPart e Ā) (λu s'=>∃o H',Āy/\IsPart u o/\Q o H') X.xe s)
def NM:TO:=(λ_ H Q=>Q none H)
def abw(t:TE):TO:=(λY H Q=>t Y H λx H1=>∃i,ċU/\Q ĕd H1)
def intsAre_of:∀[23],ba ýb us->ýo:=by
 induction ns with
 |nil=>intro us r;ext oL;ext am
 |cons n ns ih=>
  intro us r;rw[Ą]at r;cases r with
  |cons r1 r2=>
   let⟨t,e⟩:=r1;ext l;exact Ċ n t (ih r2)
section
variable{lo hi:ĐM}{tl th:TO}
def NN:PO X none NM:=by ext q;ext oH;exact wpAny_pure (none,H,I,ė,h)
def NO(h:āc):PO X ğ' (abw te):=by ext nf;rw[evalPart_some];refine de Ĳl ľw;ext b;let⟨i,rfl,q⟩:=q1;let⟨t,rfl⟩:=r1;ext a;exact(đ',H1,I1,ġP,q)
def QX(X:Cx)(r:ăe):Prop:=(
 ∀[16](x:V)(v vl vu:Vg)[89](sl:Vi)(Q:VK),ĥ->úh->ĭg->łI->łJ->ŀu ->
  ∃T id,ħH/\Ā_ v T/\wpAny Ć X.A (getItem v đs) ø3 X.xe s)
def QX.or{r r':ăe}(h:QX X r)(h':QX X r'):QX X (λx lo hi H Q=>ŀu\/r' x lo hi H Q):=by
 intro ak s Y H x v vl vu lo hi sl Q I rx hs pl pu q;ext du
 .exact h ak s Y H x v vl vu lo hi sl Q I rx hs pl pu q
 .exact h' ak s Y H x v vl vu lo hi sl Q I rx hs pl pu q
def tSl(r:ăe)[198](tl th:TO):TE:=(λY H Q=>te Y H λx H1=>tl Y H1 λl H2=>th Y H2 λu H3=>r x l u H3 Q)
def Jn{r:ăe}(hr:QX X r)(he:āc)(hl:PO X lo tl)(hu:PO X hi th):PE X ķ7 (tSl r te tl th):=by ext q;refine Subscript_ (de ĂU Č2);refine wpAny_Slice (de (hl ak s1 Y H1 _ I1 q1) λvl s2⟨l,H2,I2,pl,q2⟩=>de (hu ak s2 Y H2 _ I2 q2) λvu s3⟨u,H3,I3,pu,q3⟩=>?_);ext oH;ext aA;ext b;have I4:aG X ak Y H3 ĕy:=I3.kept (t':=s3.toks) ĎA;let⟨T,id,hT,ht,hg⟩:=hr ak ĕy Y H3 x v vl vu l u ęR Q I4 r1 (Heap.IsSliceOf.new ..) pl pu q3;ext a;show wpAny Ć X.A (subscriptTail e ĨC v (.ref ęR)) ø3 X.xe ĕy;exact tail_any (ops:=[.ref ęR,v]) ht hT hg (by ext mS)
def yD[71][89]:ķ:=((xs.drop (Č1)).take Ņc)
def rB[71][89]:(ņJ).length<=į:=by unfold yD;rw[þv,ćG];ext c
def adX(K:Va):ăe:=(λx lo hi H Q=>∃a xs,øo/\ýB /\
 ¬ (Č1=0/\ĵq=į)/\∀p,ø9->Q øA (upd H p (.tup ďG)))
def SE:QX X (adX X.K):=by
 ext iB;ext b;let⟨a,xs,rfl,hx,hw,q⟩:=h;ext U;let⟨aE,r,ht,hz⟩:=ø' hx;ext a;have hlen:ùp=į:=by rw[Ľ];exact r.length.symm
 refine("tuple",_,PyProof.Rows.slot_tuple_getitem.lookup,đR,?_);refine _B.oN ht hs pl pu (by rw[hlen];exact hw) ?_ (by rw[hlen];ext aa);rw[hlen];refine(ùr,_,úQ (t':=s.toks) (o:=.tup ďG) (ĎA) ě ?_,rfl,ģ0);exact(ĳ8,_,Ĩq,ěU)
def abx(K:Va):R2:=(λx y H Q=>∃a b xs ys,øo/\Ăa/\ýB/\mM K H b ys/\Ĥb/\į+û7<=sizeLine /\
 (ys=[]->Q ś H)/\(ys≠[]->∀p,ø9->Q øA (upd H p (ěP))))
def ba.yE[103](r:ùD):us=[]↔xs=[]:=by
 cases r with
 |nil=>simp
 |cons _ _=>simp
def NP:dE X ăh (abx X.K):=by ext F;let⟨a,b,xs,ys,rfl,rfl,ha,hb,hx,hz,q1,q2⟩:=h;ext ed;refine _B.NK p1 p2 (λz=>hx (r1.yE.mp z)) (λz=>(Ņ,H,I,rfl,q1 (r2.yE.mp z))) ĉb (by rw[<-r1.length,<-đ6];ext aa);refine(ùr,_,úQ (t':=s.toks) (o:=ěP) (ĎA) ě ?_,rfl,q2 (λw=>z (r2.yE.mpr w)) _ āz);exact(by ext ak;ext aa,_,r1.append r2,ěU)
open e
def QY[7][28]:ă4:=(if 0<=i then(if i<n then some ĉ7 else none)else if ģh then some Ŀa else none)
def um(xs:ř)[28]:Option α:=((QY į i).bind λj=>xs[j]?)
def NQ[3][29](h:QY n i=úi):seqIndex? i n=úi/\j<n/\ģh/\i<n:=by
 unfold QY at h;by_cases h0:0<=i
 .rw[if_pos h0]at h;by_cases h1:i<n
  .ext oI;have e:ĉ7=j:=ùQ h;exact(by rw[seqIndex_of h0 h1,e],ø,ø,h1)
  ext lJ
 .rw[if_neg h0]at h;by_cases h1:ģh
  .ext oI;have e:Ŀa=j:=ùQ h;exact(by rw[seqIndex_neg ø h1,e],ø,h1,ø)
  ext lJ
def yF{xs:ř}[29]{v:α}(h:ĝ2):∃j,seqIndex? i į=úi/\xs[j]?=Ĥ/\j<į/\-(į:Int)<=i/\i<į:=by
 unfold um at h;cases e:QY į i with
 |none=>ext aB;ext e
 |some j=>
  ext aB;let⟨h1,h2,h3,h4⟩:=NQ e;exact(j,h1,h,h2,h3,h4)
def g?{xs:ř}{v:α}(h:xs[j]?=Ĥ):um xs ù0=Ĥ:=by
 have hj:j<į:=(ùj h).1;have e:QY į ù0=úi:=by unfold QY;rw[øj,øj];simp
 unfold um;rw[e];ext j
def yG(b:Expr):Prop:=(∀o i,subscripted b false o i=operate [o,i] Ļl)
def Ct(X:Cx)(r:R2):Prop:=(
 ∀(value slice:Expr)[16](x y:V)(v u:Vg)(Q:VK),ĥ->úh->ąs->Ġ7 ->
  subscripted slice false v u=operate [v,u] (getItem v u)->wpAny Ć X.A (subscriptTail value slice v u) ø3 X.xe s)
def MtR[499]:Prop:=(
 ∀[16](x:V)[71](v:Vg)[61](Q:VK),ĥ->úh->ùD->ğw ->
  ĨL)
section
variable[234]{ta tb:TE}
def Ct.or{r r':R2}(h:Ct X r)(h':Ct X r'):Ct X Īq:=by
 intro value slice ak s Y H x y v u Q I rx ry q hs;ext du
 .exact h value slice ak s Y H x y v u Q I rx ry q hs
 .exact h' value slice ak s Y H x y v u Q I rx ry q hs
def aby{r:R2}(hr:Ct X r)[157](hs:yG b):PE X Ě' ďF:=by ext q;exact Subscript_ (Sh ha hb I h λv u s2 x y H2 I2 rx ry q=>hr a b ak s2 Y H2 x y v u Q I2 rx ry q (hs _ _))
def adY(K:Va):R2:=(λx y H Q=>∃p xs i v,x=úI/\y=ĝ/\ĝV/\ĝ2/\Q v H)
def adZ(K:Va):R2:=(λx y H Q=>∃p xs i v,x=úI/\y=ĝ/\ņm/\ĝ2/\Q v H)
def ad0:R2:=(λx y H Q=>∃z i c,x=ý6/\y=ĝ/\Ďh/\ĸR=ň/\Q (Ěu) H)
def NR:Ct X (adY X.K):=by
 ext hk;ext li;ext he
 by_cases h0:0<=i
 .have hj:ĉ7=j:=by rw[seqIndex_of h0 h5]at h1;exact ùQ h1
  exact item_listR āe h0 ø ĭs fin hs
 .have hj:(i+(ùp:Int)).toNat=j:=by rw[seqIndex_neg ø h4]at h1;ext gJ;exact ùQ h1
  exact subscriptTail_builtinR (x:=w) ĺL İr
   (wpAny_getItem_list_neg (Q:=ĭm) āe ø įc ø ĭs ńR) hs
def qc:Ct X (adZ X.K):=by
 ext hk;ext lh;ext he
 exact subscriptTail_builtinR (x:=w) pl.typeIs slot_tuple_getitem.lookup
  (getItem_tuple (j:=j) (Q:=ĭm) pl ø ø (by ext gJ;ext an) (by simpa using ew) ńR) hs
def SG:Ct X ad0:=by
 intro value slice ak s Y H x y v u Q I rx ry h hs;ext b;let⟨z,i,c,rfl,rfl,hz,he,q⟩:=h;ext C;ext aQ;let⟨j,h1,h2,h3,h4,h5⟩:=yF he;have hl:z.cps.toList.length=ĢZ:=by simp[Str.length]
 rw[hl]at h1 h4 h5;have hn:=uj;ext a;exact tail_any (ĺP) slot_str_getitem.lookup (getItem_str (c:=c) (by
  have e1:decide (i < -(ýT:Int))=false:=ùo;have e2:decide (i ≥ ýT)=false:=ùo;rw[e1,e2,ĿP]) (by rw[h1];simpa using h2) (Ěu,H,ù2,ę,q)) hs
def yH[89][7]:Ė'.1=((üG n 0 lo:Nat):Int)/\Ė'.2.1=((üG n n hi:Nat):Int)/\Ė'.2.2=1:=by
 refine(?_,?_,rfl)
 .cases lo with
  |none=>ext nr
  |some i=>
   ext hw
   ext km
   ext jW
 .cases hi with
  |none=>ext nr
  |some i=>
   ext hw
   ext km
   ext jW
def v!(aE:Vc)[89]:slicePick ĺ lo hi none=((aE.drop (ŃS)).take (üG ăW ăW hi-ŃS)).toArray:=by ext b;let⟨h1,h2,h3⟩:=yH lo hi ùp;ext a;unfold slicePick;rw[h1,h2,h3];simp only[sliceRange_one,pick_run,Ľ]<;>rfl
def ad1(K:Va):ăe:=(λx lo hi H Q=>∃a xs,øo/\ăf/\∀p,ø9->Q øA (upd H p (.lst ďG)))
def NT:QX X (ad1 X.K):=by ext iB;let⟨a,xs,rfl,hx,q⟩:=h;ext U;let⟨aE,r,ht,hz⟩:=ù8 hx;have hlen:=úb;refine("list",_,İr,ht.isList.typeIs,?_);refine wpAny_getItem_list_slice ht.isList hs pl pu ė Ĉ ?_ įc;rw[v!,<-hlen];refine(ùr,_,úQ (t':=s.toks) (o:=.lst ďG) (ĎA) ě ?_,rfl,ģ0);exact(ĳ8,_,0,Ĩq,ùh)
def kQ:V->Bool
 |.cq=>true
 |úU=>true
 |üE=>true
 |ÿM=>true
 |_=>false
def Nb:V->V->Bool
 |.cq,.cq=>true
 |ąM,Ś=>a==b
 |ąM,ąh=>įg
 |Ċz,Ś=>a==Ėl
 |Ċz,ąh=>a==b
 |.str a,.str b=>a==b
 |_,_=>false
def SH{s:Vh}{y x:V}{u v:Vg}[80](rx:úh)(fy:Ġ1)(fx:đZ):þ3 A s u v (Nb y x):=by
 cases y with
 |cq=>
  ext aX;cases x with
  |cq=>ext U;ext dh
  |bl b=>ext U;exact ĳS b
  |int b=>ext C;exact ĴO b t
  |str b=>ext C;exact ĴP b t
  |_=>ext cA
 |bl a=>
  ext aX;cases x with
  |cq=>ext U;exact ĳR a
  |bl b=>ext U;exact ĳQ a b
  |int b=>ext C;exact ĴK a b t
  |str b=>ext C;exact ĴL a b t
  |_=>ext cA
 |int a=>
  ext aQ;cases x with
  |cq=>ext U;exact ĴN a t'
  |bl b=>ext U;exact ĴM a t' b
  |int b=>ext C;exact īo a t' b t
  |str b=>ext C;exact ęn a t' b t
  |_=>ext cA
 |str a=>
  ext aQ;cases x with
  |cq=>ext U;exact ĴR a t'
  |bl b=>ext U;exact ĴQ a t' b
  |int b=>ext C;exact ęo a t' b t
  |str b=>ext C;exact Ķ9 a t' b t
  |_=>ext cA
 |_=>exact absurd (show ğm from fy) Ăh
def NU(x:V)(u:Vg):Bool:=(match u with
 |ė=>Nb .cq x
 |ċY=>Nb ùJ x
 |.int i _=>Nb ļ x
 |.str z _=>Nb (ý6) x
 |_=>false)
def Jo[118]{u:Vg}(r:ąs)(f:Ġ1):NU x u=Nb y x:=by
 cases y with
 |cq=>ext bw
 |bl b=>ext bw
 |int i=>ext aq;rfl
 |str z=>ext aq;rfl
 |_=>exact absurd (show ğm from f) Ăh
theorem yI{x:V}:∀[103],ùD->ěv->us.any Ċr=ķm
 |_,_,.nil,_=>rfl
 |y::xs,ı,Ċb,f=>by rw[Ĉe,úx]at f;rw[ýp,ýp,Jo r f.1,yI t f.2]
theorem uo{A:Vj}{s:Vh}{x:V}{v:Vg}(rx:úh)(fx:đZ):∀[103],ùD->ěv->∀u∈us,þ3 A s u v (NU x u)
 |_,_,.nil,_=>λu hu=>by cases hu
 |y::xs,ı,Ċb,f=>λu' hu=>by
  rw[Ĉe,úx]at f;rcases ŏ hu with rfl|hu
  .rw[Jo r f.1];exact SH r rx f.1 fx
  .exact uo rx fx t f.2 u' hu
def inV(x:V)[71]:Bool:=(ķm)
def rIn(K:Va)[290]:R2:=(λx y H Q=>∃p xs,y=úI/\(ĝV\/ņm)/\đZ/\ěv/\Q (.bl (if neg then !inV x xs else inV x xs)) H)
def GQ:dE X ę5 (rIn X.K false):=by
 ext F;ext b;let⟨p,xs,rfl,hq,fx,fs,q⟩:=h;ext aX;ext a;ext fP
 .ext b;ext li;ext a;refine SeqAt.in_listAt Ċr āe ħZ ĶL;ext hR
 .ext b;ext lh;ext a;refine SeqAt.in_tupleAt Ċr pl ħZ ĶL;ext hR
def yJ:aW X ăL (λxs H Q=>∃p ys,ĢY/\īH/\Q (.int û7) H):=by
 ext ap;ext b;ext lS;ext eG;have hn:=uj;ext a;ext fP
 .ext b;ext eo;ext a;exact Calls.call_len_list āe Ćr ĨB
 .ext b;ext eS;have hlen:=Ġ8;ext a;exact len_tuple pl Ćr ĨB
def yK:aW X ăL (λxs H Q=>∃z,xs=[ý6]/\Ďh/\Q (ěN) H):=by ext ap;let⟨z,rfl,hz,q⟩:=h;ext kQ;have hn:=uj;exact len_str ø (ěN,H,ù2,ę,q)
def aW.or{f:Vg}{r r':ýi}(h:aW X f r)(h':aW X f r'):aW X f (λxs H Q=>r xs H Q\/r' xs H Q):=by
 intro ak s Y H xs us Q I rs q;ext du
 .exact h ak s Y H xs us Q I rs q
 .exact h' ak s Y H xs us Q I rs q
def yL:aW X ąC (λxs H Q=>∃p ys,ĢY/\īH/\∀l,ĒR->Q ąF ĻA):=by
 ext ap;ext b;ext lS;ext eG;have fin:∀(aE:Vc),Ģl->ďY->∀(h':Heap)(c':Nat),(∀b o',ą8=ēU->ě_) ->
   ùn ü=some {cls:=ûY,dict:=none,data:=.seq ĺ c',slots:=#[]}->EP X ak Y Q øV Ţ:=λaE r' hz h' c' kp e=>
  (ùr,_,úQ (t':=s.toks) kp ě (show cf Đ X.w _ h' _ ăg from(hz,aE,c',r',e)),rfl,ģ0)
 ext a;ext fP
 .ext b;ext eo;let⟨o,ho,hc,n,hd⟩:=āe;ext a;exact call_list_seq p út ho hc hd Ĩ1 Ćr
 .ext b;ext eS;have hlen:=Ġ8;let⟨o,ho,hc,n,hd⟩:=pl;ext a;exact call_list_seq p (ġN) ho hc hd Ĩ1 Ćr
def v?:aW X ąI (λxs H Q=>∃p ys,ĢY/\((ŀl/\∀l,ĒR->Q ąF (upd H l Ĉ_))\/(ŀn/\Q øA H))):=by
 ext ap;let⟨p,ys,rfl,h⟩:=h;ext eG;rcases h with⟨hq,q⟩|⟨hq,q⟩
 .ext eo;refine call_tuple_list āe (λh' kp=>?_) Ćr;have I1:Ď_:=ÿx (t':=s.toks) kp;have I2:aG X ak Y (upd H Ńu Ĉ_) {s with heap:=h'.push {cls:=ùk,data:=.seq ĺ} }:=
   ģy (t':=s.toks) (Āl) ě (show cf Đ X.w _ _ _ Ĉ_ from(hz,aE,r',ěU))
  exact(.ref Ńu,_,I2,rfl,q _ ń3)
 .ext eS;exact call_tuple_same pl (úI,H,I,rfl,q)
def tyV(K:Va)[136](x:V)(H:Hp):Prop:=(match x with
 |ÿM=>T = "str"
 |üE=>T = "int"
 |úI=>(T = "list" /\ ∃xs,ĝV)\/(T = "tuple" /\ ∃o,þK p=Ă/\ýu /\ ĈI) \/
   (T = "dict" /\ ((∃aA,H p=úJ)\/∃aA,H p=þy))\/(T = "set" /\ ∃S n,H p=some (.set S n))
 |_=>False)
def Jp{s:Vh}[173]{x:V}{v:Vg}[0](r:úh)(ty:tyV X.K T x H):
  Ā_ v T/\∀a,úT->∃ob,Ũ a=ÿB/\ĜX:=by
 cases x with
 |str z=>
  ext aq;cases(show T = "str" from ty);exact(ĺP,λ_ e=>ād)
 |int i=>
  ext aq;cases(show T = "int" from ty);exact(ĺO,λ_ e=>ād)
 |ref p=>
  cases r;rcases ty with⟨rfl,xs,hq⟩|⟨rfl,o,hk,hc,hd⟩|⟨rfl,hk⟩|⟨rfl,S,n,hk⟩
  .ext b;let⟨aE,_,pl,_⟩:=ù8 hq;ext a;refine(ĺL,λa e=>?_);ext b;ext g;let⟨o,n,e,c,hd,_⟩:=pl;ext a;exact(o,e,hd)
  .refine((o,I.nT p o hk,hc),λa e=>?_);ext g;exact(o,I.nT _ o hk,hd)
  .have z:∃o,Ũ p=Ă/\ņp:=by
    rcases hk with⟨aA,hk⟩|⟨aA,hk⟩
    ext ie
    ext ie
   let⟨o,e,ex⟩:=z;ext ir
  .ext b;let⟨o,_,_,_,e,ex,_⟩:=I.bE p _ hk;ext a;ext ir
 |_=>exact þz ty
def ad2(K:Va)[136](r:ý1)(to:TE):TE:=(λY H Q=>to Y H λx H1=>ŃM/\r x [] H1 Q)
def tBM(K:Va)[136](r:ý1)(to:TE)(t:TA):TE:=(λY H Q=>to Y H λx H1=>ŃM/\t Y H1 λxs H2=>r x xs H2 Q)
variable{to:TE}{t:TA}{T id:String}{r:ý1}
def SI[393][312][101]:PE X (Ű ĵ9 [] [] bw) (ad2 X.K T r to):=by ext q;refine wpAny_Call_method0_late iC iD ĨE;ext lm;exact(T,id,pa,slot,SJ,h1,h2,ĆU rfl (ĴJ (hm ak s1 Y H1 x [] v [] Q I1 r1 .nil q1)))
def abz[393][125][312]
  (CV:(ċ3
   && ċ5)=true:=by rfl)
  [101] [182] [270]:
  PE X ĪK (tBM X.K T r to t):=by
 ext q;refine wpAny_Call_method_late iC CV iD rfl ĨE;ext lm;refine(T,id,pa,slot,SJ,h1,h2,?_);have hA:=ha bw ak s1 Y H1 _ I1 q1;rw[hs]at hA⊢;refine ĆU (by show(false || (backTo bw (ďc)).any ď)=false;rw[nW]<;>rfl) (čK ?_);exact de hA λus s2⟨vs,H2,I2,r2,q2⟩=>hm ak s2 Y H2 x vs v us Q I2 r1 r2 q2
open e
def Jq[499]:Prop:=(
 ∀[16](x:V)[71](v:Vg)[61](Q:VK),ĥ->úh->ùD->ğw ->
  ĨL)
def ba.one{x:V}[23](p:ba [x] us):ĺ0:=by
 cases p with
 |cons r t=>cases t;exact ĞD
def ba.two[118][23](p:ba ÿQ us):∃u v,us=[u,v]/\ý2/\bh y v:=by
 cases p with
 |cons r t=>
  let⟨v,z,q⟩:=ba.one t;rw[z];exact(_,v,rfl,r,q)
theorem ba.zero:∀[23],ba [] us->us=[]
 |_,.nil=>rfl
theorem ba.rep[103](h:ùD):∀k:Nat,ba ĳu ĳt
 |0=>.nil
 |k+1=>by rw[ĂZ,ĂZ,Ďu,Ďu];exact ba.append h (ba.rep h k)
theorem foldl_rep(aE:Vc):∀[22](acc:Vc),
  Ğ9 ęj Ņ4 (ŝ k ĺ)=(acc++ĳs).toArray
 |0,acc=>Ń
 |k+1,acc=>by
  have e:Ņ4++ĺ=(acc++aE).toArray:=Ń
  have e2:ńt++ĳs=acc++(ŝ øe aE).flatten:=by rw[ĂZ,Ďu,Į]
  rw[<-e2,<-foldl_rep aE k ńt,<-e,ĂZ,Ěw]
section
variable{s:Vh}{l b:Vi}{xs ys zs:ķ}
def aG.abA{its':Vc}[3]{f:Ů->Ů}[74][0](hH:ăE)(e:Ũ l=ĖK)(hf:f ĺ=its'.toArray)(hv:ba ys its')(hz:ďY):
  aG X ak Y ĻA {s with heap:=ďV l (þ2 f),toks:=t'}:=by
 have q:=ĺe e f;rw[hf]at q;refine ģx (x:=l) (e:=l) (by rw[hH];ext bL) út (λb' u hb hu=>(üZ ù (þ2 f) Ġg).trans hu) (_,q) ?_;exact(hz,its',_,hv,q)
def aG.abB[74][0](hv:Ģl)(hz:ďY):
  aG X ak Y (upd H ü ăg) {s with heap:=ø0 {cls:=ûY,data:=.seq ĺ},toks:=t'}:=
 úQ ĘY ě (hz,aE,0,hv,ùh)
def aG.fresh[0]:ďm:=Ćg
def aG.GR[0](hH:ăE):ùX/\∃(aE:Vc)(n:Nat),āl/\į=ăW/\Ũ l=ĖK:=by ext b;let⟨z,aE,n,r,e⟩:=I.bE l _ hH;ext a;exact(z,aE,n,r,úb,e)
def AJ[3](h:ĝX):Č4 n=false:=by unfold Č4;exact ùo
open e
def NV:ý1:=(λx vs H Q=>∃l xs y,x=ûA/\vs=[y]/\ăE/\į<sizeLine/\Q .cq (upd H l (.lst (xs++[y]))))
def GS:Jq X "list.append" NV:=by ext ez;ext b;let⟨l,xs,y,rfl,rfl,hH,hz,q⟩:=h;ext U;ext lV;ext cR;ext a;refine call_meets ĶV Ĉ' ĴD ĭr (ĸg l ĺ n u ĘA) (e,?_);refine(.cq,_,I.abA (its':=aE++[u]) hH e Ĉ (ĄM (Ċ ru .nil)) ?_,rfl,q);rw[Ď,Ăw];ext c
def NW:ý1:=(λx vs H Q=>∃l b xs zs,x=ûA/\vs=[øM]/\ăE/\ĶW/\ĸ3/\Q .cq (upd H l ķC))
def GU:Jq X "list.extend" NW:=by
 ext ez;ext b;ext iJ;ext lV;cases ru;ext cR;ext jQ;ext a;have hsz:ùp+Āj<=sizeLine:=ĲR
 have Js:¬ (! Ķ'&&Č4 (ùp+Āj))=true:=by rw[AJ hsz,ĀB];ext aV
 refine call_meets F.slot_list_extend Ĉ' F.entry_list_extend (F.args_list_extend_2 _ _)
  (AutoSeq1.list_extend_list_list_0 l ĺ n b ă8 n2 Js ĘA ø) (e,e2,?_)
 refine(.cq,_,I.abA (its':=aE++cP) hH e Ĉ (ĄM r2) ?_,rfl,q);ext ak;ext c
def ad3:R2:=(λx y H Q=>∃l b xs zs,x=ûA/\Ăa/\ăE/\ĶW/\ĸ3/\∀p,ø9->Q øA (upd H p ķC))
def SK:dE X ăh ad3:=by
 ext F;ext b;ext iJ;ext aX;ext cR;ext jQ;ext a;refine PySem.P.add_list e e2 ?_ (ĲR);have ea:ĺ++ă8=(aE++cP).toArray:=Ń
 rw[ea];exact(.ref _,_,I.abB (t':=s.toks) (ĄM r2) (Ďw),rfl,ņv)
def ad4:R2:=(λx y H Q=>∃l k xs,x=ûA/\y=ÿL/\ăE/\Ġj/\k<ýT/\į*úL<=sizeLine /\
 ∀p,ø9->Q øA (upd H p (.lst (ŝ úL xs).flatten)))
def len_rep(xs:ř)[22]:(ŝ k xs).flatten.length=k*į:=by
 induction k with
 |zero=>simp
 |succ k ih=>rw[ĂZ,Ďu,Ď,ih,Nat.succ_mul,Ĉt]
def SM:dE X ĎE ad4:=by
 ext F;ext b;let⟨l,k,xs,rfl,rfl,hH,h1,h2,hz,q⟩:=h;ext U;let⟨t,rfl⟩:=ry;ext cR;ext a;have hlen:Ĥf<=sizeLine:=by ext gJ;ext aa
 have SN:¬ Ĥf>Ŀt:=by
  have:ĹG<=Ŀt:=øi
  ext c
 have abC:¬ (!Builtin.List.listFitsIndex k)=true:=by rw[fitsIndex_both h1 h2];ext aV
 have Js:¬ Č4 (Ĥf)=true:=by rw[AJ hlen];ext aV
 have ad5:Ğ9 ęj #[] (ŝ (if Ķ'=true then 0 else úL) ĺ)=(ŝ úL aE).ļg:=by
  have f0:∀m:Nat,Ğ9 ęj #[] (ŝ m ĺ)=(ŝ m aE).ļg:=λm=>by have:=foldl_rep aE m [];rw[Ž]at this;ext n
  rw[f0];cases aE with
  |nil=>simp
  |cons a r'=>ext cb
 refine wpAny_binaryOp_repeat_ref (T:="list") (U:="int") ø Ĉ' (λs'=>typeIs_int s' k t) noFill_list_mul F.fills_int_mul ĻU repeat_list F.slot_int_index.lookup
  (call_meets ĻU (typeIs_int s k t) F.entry_int_rmul (F.args_int_rmul_2 _ _) (int___rmul___int_list k t l ĺ n)
   (e,rfl,Ĉ',call_meets F.slot_list_mul Ĉ' F.entry_list_mul (F.args_list_mul_2 _ _) (AutoListH.list___mul___list_int_3 l ĺ n k t abC SN Js) (e,?_)))
 rw[ad5];exact(.ref _,_,I.abB (t':=s.toks) (r.rep úL) (by rw[len_rep,łQ];ext aa),rfl,ņv)
open e _A
namespace _C
open PySem.W PySem.Calls PyProof.Rows
def si{P:Params}:∀[53](vs:Vc),WellAll P h vs ķW->Ĉc:=by
 intro ns
 induction ns with
 |nil=>
  intro vs w;rw[Ĺ]at w;cases w;ext am
 |cons n ns ih=>
  intro vs w;rw[Ą]at w;cases w with
  |cons a b=>
   cases a;exact Ċ _ _ (ih _ b)
def GV{l:OpenLaw}[3][351]{P:Params}{args:List WData}{vals:Vc}(NX:l.row.toRowW.claim.pre args=true)(hwl:WellAll P h vals args):
  ∃a vs ns,vals=[þe]/\args=[WData.list ķW]/\úW=some čg/\Ĉc/\ĔR:=by
 ext b;have hsh:WShape.hasAll [] args [.list .int]=true:=ķS.1;have hc:l.pre.holds [] {args:=args} = true:=ķS.2;let⟨d,r,rfl,h1,h2⟩:=hasAllW_cons hsh;ext a;obtain rfl:=hasAllW_nil h2;ext b;let⟨xs,rfl,h3⟩:=hasW_list h1;let⟨ns,rfl⟩:=items_int h3;have hlen:ĔR:=by
  unfold OpenLaw.pre at hc;have h4:(WTm.not (.lt (.lit ăV) (.len (.arg 0)))).holds [] {args:=[.list ĐU]} = true:=by have h4:=(holds_andW hc).1;rw[hn]at h4;exact h4
  have h5:=condW_of h4 (w_not (w_lt w_lit (w_len_list (w_arg rfl))));rw[č]at h5;refine ćH Ċd;have q':úC<((ų:Nat):Int):=ø
  first
   |(rw[decide_eq_true q']at h5;exact absurd h5 ø)
   |(simp at h5;ext c)
 ext a;cases hwl with
 |cons w1 w2=>
  cases w2;cases w1 with
  |list ho SQ=>exact(_,_,ns,rfl,rfl,ho,si ns _ SQ,hlen)
def GW(l:OpenLaw)(args:List WData):l.row.toRowW.claim.post args āT args=true:=
 postW_of (r:=l.row.toRowW) (X:=ļ8)
  (show WShape.has [] āT øk=true by first|rfl|decide|simp[WShape.has,WShape.arms,WShape.armsAll])
  (show(WTm.eq .res (.lit āT)).value [] {args:=args,res:=some āT,after:=args} = some (øk ļ8)from w_eq_bool (w_res rfl) w_lit) rfl
def AK{l:OpenLaw}[3][324][351](hdf:ĳY)
  (call:∀ [27] (cr ap:Vh) (mg mb:U?) (fa:Vi) (o:Obj) (pm cd doc:Vg) (a:Vi) (vs:Vc) [53],
   Ground q loose [] XP w cr mg mb ăX->YP w ăX ->
   Ď' fa=Ă->úK=ā1 (docDef d.name d.params d.body d.scope pm cd doc)->ap.heap.CodeRec cd d.name->ęs ->
   ľi->Ĉc->ĔR->Ŀ' ->
   codeAny (model Ą7 w) callerA ĵC ĤL ap):
  WalkO q loose XP YP ŃD d [] ĭ3:=by
 intro w cr ap mg mb G σ fa o pm cd doc dV kV ho hd AF hD hmg hg args vals as NX ae1 hrd hwl hlo;obtain rfl:dV=ė:=Dflts.none hD hdf;obtain rfl:kV=ė:=Dflts.noKw hD;ext b;let⟨a,vs,ns,rfl,rfl,SS,hints,hlen⟩:=GV hn NX hwl;ext a;refine enter_call (codeAny_mono (call w cr ap mg mb fa o pm cd doc a vs ns G σ ho (fd_plain hd) AF hmg SS hints hlen hg) ě');ext b;let⟨rfl,h2,h3,h4⟩:=hq;ext a;exact(.inl (ćx,ćx,[],rfl,ù',ćx,GW l _,λ_=>(þl,λ_ hm=>(nomatch hm))),h2,h3,h4)
open e _C
namespace _A
open PySem.Spec PyProof.Rows
theorem xt:∀{vs:Vc}{ns:Vb},Ĉc->ba ýb vs
 |_,_,.nil=>.nil
 |_,_,Ċ n t h=>Ċ ĄV (xt h)
def NY(H:Hp):Prop:=(∀b,ŷ\/∃o xs,H b=ĺN)
def Jt{K:Va}{mg mb:U?}[20]{a:Vi}[44][4]{ap:Vh}(KX:K.In ăX)(AL:ğf mainGlobals mg)(hb:ğf builtinsNs mb)(hbb:ĵx)(ad6:ap.heap.NoLimit)(hg:Ŀ')(ha:ľi)(hi:Ĉc)(hl:ŀL)(hr:Ńl)(F:∀base:Heap,Ġt->ĆW->gN P w K mg base CX k fa fd [x] sp)(abD:ĕ5)(QW:∀H:Hp,NY H->ĜW->sp ùd H ĹR ć2)(hCX:∀H e s',CX [] H ap (ć2) e s'->False):
  Ĩy:=by
 have rv:=xt hi;have ad7:=ĠV
 -- from an abstract heap in aeX nothing but II SU may be tracked
 have core:∀H:Hp,NY H->ĜW->jF P w H ăX->(∀b,H b≠none->b=a)->(H a≠none->þK a=none) ->
   Ĩy:=by
  intro H hO hS bE hA hK;have Ey:∀[132],Ď' b=Ă->ŷ->(Ċj).get? b=Ă:=λe n=>IT e n;have noA:∀[132][187]{ep:Nat},Ď' b=Ă->ćV->ŷ:=λ{b o es ep}e d=>by
   cases q:H b with
   |none=>rfl
   |some u=>
    ext mc;rw[ha]at e;ext g;have d':ġZ øH _=Data.dict es ep:=d;cases d'
  have nsK:∀{b:Vi}{m:U?},ğf b m->(Ċj).Ns b m:=λ{b m}⟨o,es,ep,e,d,r⟩=>(o,es,ep,Ey e (noA e d),d,r)
  have hKb:K.In (Ċj):=λb o e=>Ey (KX b o e) (by
   cases q:H b with
   |none=>rfl
   |some u=>
    ext mc;rw[hK (ĎK)]at e;ext g)
  have hM:Mod K mg (Ċj):=(hKb,nsK AL,(mb,nsK hb,hbb),let⟨mc,h1,h2⟩:=ad6;(mc,nsK h1,h2))
  have e0:CS P w K mg (Ċj) callerA [] ap H:=(rfl,hM,λb o e=>Nl e,łP (GF _ _),trivial,λb hb=>absurd (show Ņ8 from hb) Ĉ,bE,.of_eq hg)
  refine codeAny_mono ((F _ hKb (nsK AL)).run callerA [] ap H (ùd,[]) ùd ùd _ _ hr e0 (abD ap ś) (Ċ rfl .nil) (QW H hO hS)) λr s' h=>?_;cases r with
  |error e=>exact(hCX H e s' h).elim
  |ok fl=>
   cases fl with
   |next=>exact þz h
   |brk=>exact þz h
   |cont=>exact þz h
   |ret u=>
    let⟨v,H',os,bare,un,ad8,r',q⟩:=h;have q':v=Ż:=q;subst q';obtain rfl:u=Đ4 true:=r';refine(rfl,OldK.of_keep ĝ8,os,bare);cases q:H b with
    |none=>exact un.keep b o e q (by intro z;exact ĪQ) Ĉ
    |some u=>
     rcases hO b with z|⟨ob,xs,z⟩
     .rw[q]at z;cases z
     .have z2:=un.mZ b ob _ z;let⟨e1,_⟩:=bE b _ z;let⟨e2,_⟩:=ad8 b _ z2;rw[e]at e1;cases e1;exact e2
 cases hk:þK a with
 |some o=>
  -- II SU is one of II abE own objects
  have e:=KX a o hk;rw[ha]at e;ext g;refine core (ĉl) (λ_=>üw) (.inr (_,øH,_,hk,rfl,rfl,rfl,by rw[Ľ,ad7];exact hl,ĸy)) (λb u z=>by have z':(none:Ġw)=Ę:=z;cases z') (λb z=>Ńg) λz=>Ńg
 |none=>
  refine core (λb=>if b=a then some (.jl čg (.lst ýb))else none) (λb=>?_) (.inl (.inr (čg,Ī))) (λb u z=>?_) (λb z=>?_) λ_=>hk
  .ext bZ
   .exact .inr (_,_,đT)
   .exact .inl (ĠX)
  .ext bZ
   .have z':=(đT).ĀY z;cases z';subst hb;exact(ha,č5,vs,_,rv,ha)
   .have z':=(ĠX).ĀY z;cases z'
  .ext bZ
   .exact hb
   .exact absurd (ĠX) z
def NZ[357]{n k:Nat}[324]{K:Params->Va}{CX:World->Cs}{sp:World->Sp}[4][351](hn2:ĝX)[399]
  (F:∀ [27] (mg:U?) (fa:Vi) [15],ĉv h->Ę9->ęs ->
   ∃fd:FuncData,(ĕ5) /\
    ∀base:Heap,ĉv base->ĆW->gN Ą7 w ĕj mg base (CX w) k fa fd [x] (sp w))
  (QW:∀[27][79][53],ĔR->NY H->kN ĕj H a ýb->sp w ùd H ĹR ć2)
  (hCX:∀[27][134](e:Vg)[83],CX w [] H s (ć2) e s'->False):
  Ħa:=by
 refine _C.AK hn hdf λw cr ap mg mb fa o pm cd doc a vs ns G σ ho hd AF hmg SS hints hlen hg=>?_;ext b;have KX:=hY w _ σ;let⟨fd,hb,hF⟩:=F w mg fa _ KX G.T.g hmg;ext a;exact Jt KX G.T.g G.T.b G.T.builtins G.T.nolimit hg SS hints (ģ hlen hn2) hr hF hb (λH hO hS=>QW w H a ns hlen hO hS) λH e s'=>hCX w H ap e s'
def ff(s:Stmt):Arguments:=(match s with
 |Ĝs _ a _ _ _ _ _ _ _ _=>a
 |_ => {posonlyargs:=[],args:=[],vararg:=none,kwonlyargs:=[],kw_defaults:=[],kwarg:=none,defaults:=[]})
def cV(s:Stmt):úF:=(match s with
 |Ĝs _ _ b _ _ _ _ _ _ _=>b
 |_=>[])
def aI(s:Stmt):Scope:=(match s with
 |Ĝs _ _ _ _ _ _ sc _ _ _=>sc
 |_ => {kind:=Ď2,names:=[],isGenerator:=false,isCoroutine:=false})
abbrev E0:XK:=ć2
structure Nc(K:Va)(x qual:Str)[241](f:Vi)[353]:Prop where
 ex:∃(oc:Vg)(od:úM)(kV doc pm:Vg)(an:úM)(d5 ct:Vg)(IJ:ĈR),
  fd=ċ9/\ċZ=some (oc,od,ā1 fd,IJ)/\ėT
 kp:ćb
section
variable[124]
def Nc.binds{x qual:Str}[93][44][152][327](h:∀[267],āN->bindArgs (ċ9) ÿV=Ċh):ćE:=by ext iy;exact .all (h kV doc pm an d5 ct)
def CW{x qual:Str}[314](l:ċZ=some (oc,od,ā1 (ċ9),IJ))(c:ėT)(k:ćb):Nc K x qual st f (ċ9):=((oc,od,kV,doc,pm,an,d5,ct,IJ,rfl,l,c),k)
open e
def nX[293]:Prop:=(∀b o,H b=Ă->H' b=Ă)
def nX.refl(H:Hp):nX H H:=đk
open e _A
variable {kp:Pos}
namespace _A
open PySem.Spec PyProof.Rows
open Sem (wp)
def kR{α:Type}:ąn->Prop
 |.pure _=>True
 |.raise _=>True
 |.unsupported _=>True
 |.register _ _=>True
 |.load _ _ k=>∀o,kR (k o)
 |.update _ _ _ k=>kR (k ý9)
 |.alloc _ k=>∀a,kR (k a)
 |.stack k=>∀l,kR (k l)
 |_=>False
def bt{f:α->Sem β}(k:∀a,kR (f a)):∀{t:ąn},kR t->kR (t >>= f):=by
 intro t
 induction t with
 |pure a=>exact λ_=>k a
 |raise|unsupported|register=>exact Āz
 |load a o g ih=>ext fA
 |update a o f g ih=>exact λh=>ih ý9 h
 |alloc o g ih=>ext fA
 |stack g ih=>ext fA
 |_=>exact λh=>ĊO
def N0[35]{Γ:PySem.Ctx}{Q1 Q2:α->Pos->øE}{E1 E2:Vg->Pos->øE}[30](t:ąn):∀{s:Vh},kR t->wp M Γ t Q1 E1 p s->wp M Γ t Q2 E2 p s->wp M Γ t (λa p s=>Q1 a p s/\Q2 a p s) E1 p s:=by
 induction t with
 |load a o k ih=>
  intro s z h1 h2;ext b;let⟨x,a1,b1⟩:=h1;let⟨y,a2,b2⟩:=h2;rw[a1]at a2;cases a2;ext a;exact(x,a1,ih _ (z _) b1 b2)
 |update a o f k ih=>intro s z h1 h2;rw[Sem.wp_update]at h1 h2⊢;exact(h1.1,ih _ z h1.2 h2.2)
 |pure a=>exact λ_ h1 h2=>ĄU
 |raise a=>exact λ_ h1 _=>h1
 |unsupported|register=>exact λ_ h1 _=>h1.elim
 |alloc o k ih=>ext jZ
 |stack k ih=>ext jZ
 |_=>exact λz=>z.elim
def iG[35]{t:ąn}{Q1 Q2 Q:Ĥv}[18](z:kR t)(h1:wpAny M A t Q1 E s)(h2:wpAny M A t Q2 E s)(h:∀a s',Q1 a s'->Q2 a s'->Q a s'):ĸS:=by have z:wpAny M A t (λa s=>Q1 a s/\Q2 a s) E s:=λΓ p k=>N0 t z (h1 Γ p k) (h2 Γ p k);exact wpAny_mono z (λa s' q=>h a s' q.1 q.2) þ'
def oO(v:Vg)[5]:kR (field v i):=by
 refine bt (λa=>?_) ?_
 .ext dA
 .unfold fieldsOf;cases v with
  |ref a=>
   ext fn;ext dA
  |_=>ext i
def CY(v:Vg)[5](x:Vg):kR (setField v i x):=by
 cases v with
 |ref a=>
  ext fn;split
  .split
   ext E
   ext E
  ext E
 |_=>ext i
theorem AM:∀l:ûj,kR (readyFrames l)
 |[]=>trivial
 |ğj=>by
  unfold readyFrames;split
  .ext fn;split
   ext E
   .refine bt (λb=>bt (λv=>bt (λ_=>AM outer) ?_) ?_) ?_
    ext E
    .unfold keptBack;split
     .split
      ext E
      .exact Āz
     ext E
    .unfold behindIsImport;split
     ext E
     .split
      ext E
      .refine bt ċa ğ9;ext bL
  ext E
def Ju[237]:kR (ĸf):=by
 refine bt (λl=>bt (λv=>?_) ?_) (Āz)
 .ext dA
 .unfold frameObject;split
  ext E
  .refine bt ċa (AM _);ext bL
def qe(v:Vg)(f:úM):kR (setFlight v f):=by
 ext kp
 .exact ġX
 ext E
def Ez(v:Vg)[237]:kR (noteFrame v env):=by
 unfold noteFrame;split
 .rename_i f _;have go:∀h b,kR (do setField v 1 (<-Ę0 h (<-ĸf) ė (rawInt f) ė (<-entryPlaceOf f b))):=λh b=>by
   refine bt (λa=>bt (λl=>bt (λ_=>ġX) ?_) ?_) (Ju env)
   .unfold Ę0 newFields newObj;ext d;split<;>split
    ext E
    .exact Āz
    ext E
    .exact Āz
   .unfold entryPlaceOf;refine bt ċa (Āz);ext dA
  ext kp
  .refine bt (λx=>?_) ğ9;split
   ext E
   .exact bt (λ_=>go _ _) (ġX)
  .exact go _ _
 ext E
def AN(v:Vg)[237]:kR (leaving env v):=bt (λ_=>qe _ _) (Ez _ _)
def N1(oe:Obj):Prop:=(∃vs,ņq/\ļr)
def uq[15](e:Vi):Prop:=(∃oe vs,øJ e=ēV/\ņq/\ļr/\(ĔP=some ăN\/∃T oT ts,ĔP=some (ü2 T)/\T≠e/\øJ T=some oT/\oT.data=ûu ts/\3<ts.size))
def uq.ctx{e:Vi}(t:uq h e)(he:øJ e=ēV):N1 oe:=by let⟨o,vs,h1,h2,h3,_⟩:=t;rw[he]at h1;ext aL;exact(vs,h2,h3)
section
variable[35][18]{base:Heap}{env:PySem.Env}[367]{L e:Vi}
def nY(h:ÿv):wpAny M A ĩp Ďa E s:=by
 ext b;let⟨oe,vs,he,hd,h2,h1⟩:=h;ext a;ext iS
 .ext cz;exact wpAny_pure (oe,vs,he,hd,h2,.inl h1)
 .ext cz;refine wpAny_setField hT dT h3 (oe,vs,č' he,hd,h2,ĤP)
def AO[211][486][158](h:ÿv):wpAny M A Ĳp Ďa E s:=by
 have go:∀(s1:Vh)(head:Vg)[10],s1.heap.FunFrames base ĂD->uq s1.heap e->wpAny M A (do setField ăa 1 (<-Ę0 head (<-frameOf env) ė (rawInt L) ė (<-entryPlaceOf L b))) Ďa E s1:=by
  intro s1 head b hl aP;ext b;let⟨oe,vs,he,hd,h2,h1⟩:=aP;ext a;have z1:1<Ĉ5:=by rcases h1 with q|⟨_,_,_,q,_⟩<;>exact(Ħ6 q).1
  have ad9:e ∉ (ğj).filterMap łc:=λhm=>by let⟨_,o,ho,GX⟩:=hl.mem hm;rw[he]at ho;ext fE
  refine wpAny_bind (wpAny_frameOf_fun Az hl hf λh₁ abF=>?_);refine wpAny_bind (wpAny_entryPlaceOf λpl g!=>?_);refine wpAny_bind (wpAny_newObj_type ?_ (g!.sizeOk5 _ _ _ _ _));have Jv:ĠW e=ēV:=(abF.2.1 e ad9).trans he;refine wpAny_setField łt hd z1 ?_;have ne:ěp ≠e:=ûd (ŉ Jv);have d3:=Āp hd (·.setIfInBounds 1 (ü2 ěp));refine(_,_,ĆH _ łt (čC d3),d3,by rw[Array.getElem?_setIfInBounds_ne ø];ext ai,.inr (ěp,_,_,by simp[z1],ne,(üZ _ _ Ēp).trans (č0 h₁ rfl),rfl,by simp only[Ľ,Ď,ă,ĳ];ext c))
 unfold noteFrame;simp only[hf];ext b;let⟨oe,vs,he,hd,h2,h1⟩:=id h;ext a;ext iS
 .ext cz;exact go s _ _ hl h
 .ext cz;refine wpAny_bind (wpAny_field hT dT (x:=ts[3]) Ļe ?_);split
  .ext bE
  .refine wpAny_bind (wpAny_setField hT dT h3 ?_);have Nd:∀b,b≠T->(ďV T (Ŀ3 (·.setIfInBounds 3 ăN))).get? b=ą8:=λb hb=>üZ _ _ Ġg;refine go _ _ _ (ņe λb o hb GX=>(o,(Nd b Ċd).trans hb,rfl)) (oe,vs,(Nd e Ēp).trans he,hd,h2,ĤP);rw[q,hT]at hb;cases hb;exact GX ts dT
def rC[211][486][158](h:ÿv):wpAny M A īj Ďa E s:=
 wpAny_bind (wpAny_mono (AO Az hl hf h) (λ_ _ q=>nY q) þ')
variable{a0:Vg}[128]
def Jw[455]:ÿv:=by let⟨t,he,_⟩:=hx.there;exact(_,_,he,rfl,rfl,üw)
def yM[211][158](hkb:base.StaysIn h)(hl:h.FunFrames base ĂD)[455](hQ:∀h' t,Įn->ČD):Ķi:=
 iG (AN _ _) (wpAny_leaves_madeW (Q:=λ_ s'=>∃h' t,Ē'/\Įn/\ÿ_) Az hf hkb hl hx λh' t a _ _ d=>(h',t,rfl,a,d)) (rC Az (ņe λb o hb _=>(o,hx.keeps b o hb,rfl)) hf (Jw hx))
  λ_ _⟨h',t,z,a,d⟩q=>by ext A;exact hQ h' t a d q
def CZ[211][158][441](ht:ÿv)(hQ:∀h',Į6->ČD):Ķi:=
 iG (AN _ _) (wpAny_leaves_onW (Q:=λ_ s'=>∃h',Ē'/\Į6/\ÿ_) Az hf hfl čr) (rC Az hfl.2.2.1 hf ht)
  Če
def GY[211][158][441](ht:ÿv)(hQ:∀h',īm->ČD):wpAny M A Ĳp Q E s:=
 iG (Ez _ _) (wpAny_looks_onW (Q:=λ_ s'=>∃h',Ē'/\īm/\ÿ_) Az hf hfl čr) (AO Az hfl.2.2.1 hf ht)
  Če
def SV{l:Čx}(hh:Heap.HeldW base l e cls a0 L ù)(ht:ÿv)[466]:Ķh:=
 iG (qe _ _) (wpAny_landsW (Q:=īW) hh čr) (nY ht)
  Če
def yN{l:Čx}(hh:þn base l e cls a0 ù)(ht:ÿv)[466]:Ķh:=
 iG (qe _ _) (lands_againW (Q:=īW) hh čr) (nY ht)
  Če
open e
section
variable[ďs]
def jm[224]:üm:=(įU)
def putK[224](v:V):ùl:=(
 ĥA)
def rD[224]:ùl:=(īt)
def ur{p:κ×V}{r:ùl}{k:κ}(e:āZ):ņh=ĢM:=ĸv
def uu{p:κ×V}{r:ùl}{k:κ}(e:¬ āZ):ņh=jm r k:=ĸv
theorem AQ(k:κ):∀aA:ùl,Ĉm=(Ąg).isSome
 |[]=>rfl
 |p::r=>by
  rw[ýp];ext aS
  .simp only[ur e,ė2,Ĝz,Option.isSome_some]
  .rw[uu e,ĸB,ć_];exact AQ k r
def kS[224](v:V):Ľh<=ø2+1:=by
 unfold putK;split
 ext gr
 .rw[Ď,ă,ĳ];ext c
def jU.qg{o:üm}{u:Vd}(r:jU o u):Ē7=u.isSome:=by
 cases o with
 |none=>cases u with
  |none=>rfl
  |some _=>ext bf
 |some _=>cases u with
  |none=>ext bf
  |some _=>rfl
def jU.getD{o:üm}{u:Vd}{d:V}{d':Vg}(r:jU o u)(rd:bh d d'):bh (ąv d) (u.getD d'):=by
 cases o with
 |none=>cases u with
  |none=>exact rd
  |some _=>ext bf
 |some _=>cases u with
  |none=>ext bf
  |some _=>exact r
def KV.val[155](k:κ):jU Ĕ9 (Ĝ1):=by
 unfold KV at r
 induction r with
 |nil=>exact üi
 | @cons p q ps qs h t ih=>
  ext dt;ext aS
  .ext nY;have b:ŀH=some q.2:=İ4
   rw[ur e,b];ext ai
  .ext fH;have b:ŀH=valueAt qs k:=İ4
   rw[uu e,b];ext aM
def KV.any[155](k:κ):Ĉm=vs.any Ćh:=by
 unfold KV at r
 induction r with
 |nil=>rfl
 |cons h t ih=>rw[ýp,ýp,ih,h.1]
def KV.yO[155](k:κ)[246][80]:
  KV Ĩr (Ċ1 ĪB):=by
 ext oN
 induction r with
 |nil=>ext am
 | @cons p q ps qs h t ih=>
  ext lH;ext dt;ext aS
  .ext nF;exact(h1,ry)
  .ext nD;exact ĄU
def KV.put[155](k:κ)[246][80]:KV Ļu (stored vs k u):=by
 unfold putK stored;rw[r.any k];by_cases e:(vs.any Ćh)=true
 .rw[Ā9,Ā9];exact r.yO k ry
 .rw[ün,ün];exact ŅO r (rfl,ry)
def KV.drop[155](k:κ):KV ńQ (without vs k):=by
 ext oN;unfold rD without
 induction r with
 |nil=>ext am
 | @cons p q ps qs h t ih=>
  ext dt;rw[Ĺ5,Ĺ5];ext aS
  .have a:¬ ĲU:=Ďx
   have b:¬ ĲV:=by simp[ėg]
   rw[if_neg a,if_neg b];ext aM
  .ext fH;have a:ĲU:=Ďx
   have b:ĲV:=by simp[e']
   rw[if_pos a,if_pos b];exact Ċ ĄU ih
def KV.length[155]:ø2=Ş:=ăA r
def Jx[224]:(rD aA k).length<=ø2:=įp
open e
def uv{k:bF}{u:Vg}(r:Ģm):ır:=by
 cases k with
 |inl i=>ext ku;ext l;exact AD P w i t
 |inr x=>ext kt;ext l;exact AE P w x t
theorem xu{P:Vk}[36]:∀{ks:ŭ}[23],ba (ąu kV) us->ItemsAre ĉo ks us
 |[],_,r=>by ext oL;ext am
 |k::ks,_,r=>by
  rw[Ą]at r;cases r with
  |cons h t=>exact Ċ (uv h) (xu t)
abbrev KT(H:Hp):ćf->ći->Prop:=Paired λp q=>Ħ8
def KT.val[264](k:ŭ):jU Ĕ9 (ĻG):=by
 induction r with
 |nil=>exact üi
 | @cons p q ps qs h t ih=>
  ext b;let⟨h1,_,h2⟩:=h;ext a;ext aS
  .ext nY;have b:Ņ5=some q.2:=ĲS
   rw[ur e,b];ext ai
  .ext fH;have b:Ņ5=atKey qs k:=ĲS
   rw[uu e,b];ext aM
def KT.yO[264](k:ŭ)[246][80]:
  KT H Ĩr (ąb (putAt k u)):=by
 induction r with
 |nil=>ext am
 | @cons p q ps qs h t ih=>
  ext lH;ext b;let⟨h1,h2,h3⟩:=h;ext a;unfold putAt;ext aS
  .ext nF;exact(h1,h2,ry)
  .ext nD;exact(h1,h2,h3)
def KT.put[264](k:ŭ){b:Vi}[246](hb:ĉ1)[80]:
  KT H Ļu (storedH xs k b u):=by
 have e:Ĉm=Ľl:=by rw[AQ,(r.val k).qg,ęI]
 unfold putK storedH;rw[e];by_cases q:Ľl=true
 .rw[üx,üx];exact r.yO k ry
 .rw[ýR,ýR];exact ŅO r (rfl,hb,ry)
def KT.keeps[264](ht:∀b ys,H b=some Ĉ_->H' b=some Ĉ_):KT H' aA xs:=
 ĠA r λ_ _ z=>ĮA
section
variable{a:Vi}
def QZ{u:HO}[109](e:Rd H a u):ĽY:=e.ok ok
def oP[72][109](e:ă5):ĕz:=
 show cf P w H h a ü5 from QZ ok e
def Jy[72][109][168]:ĕz:=oP ok (ÿF)
def uw{ks:ŭ}[109](e:H a=some ĘQ):(čb).is h ks a:=by
 ext b;let⟨_,aE,r,o,h1,h2,n,h3⟩:=(show cf P w H h a ĘQ from ok a _ e)
 ext a;exact(o,ĺ,n,h1,h2,h3,by simpa using xu r)
def xw[185][109](e:Ğ_):Ĉj/\ăm /\
  ĩ4:=by
 ext b;let⟨z,y,xs,r,o,es,ep,h1,h2,h3,h4,h5⟩:=(show cf P w H h a Đd from QZ ok e)
 ext a;refine(z,y,xs,r,o,es,ep,h1,h2,h3,h4,λx hx=>?_,h5);have all:∀{l:ćf}{m:ći},KT H l m->∀x∈m,(čb).is h x.1 x.2.1:=by
  intro l m q
  induction q with
  |nil=>intro x hx;exact nomatch hx
  | @cons p q ps qs hq t ih=>
   intro x hx;rcases ŏ hx with e|hx
   .ext l;exact uw ok (by rw[<-hq.1];exact hq.2.1)
   .exact ih x hx
 exact all r x hx
def abG[185][109][279]:Ĉj/\ăm /\
  ĩ4:=xw ok (ÿF)
open e
def qh[79](y:V)(r:üm):Prop:=(
 (∃aA k,ă5/\y=kV k/\r=Ąg)\/∃aA k b,Ğ_/\Ăa/\ĉ1/\r=Ąg)
def yP[79](y v:V)(H':Hp):Prop:=(
 (∃aA k,H a=úJ/\y=kV k/\ăJ/\H'=Ķf) \/
 ∃aA k b,H a=þy/\Ăa/\ĉ1/\ăJ/\H'=Ķg)
def qh.k{H:Hp}{a:Vi}[72]{k:bF}[168]:qh H a Ēl Ĕ9:=.inl (aA,k,ÿF,rfl,rfl)
def qh.t[253][185]{k:ŭ}[279](eb:ĉ1):qh H a þb Ĕ9:=.inr (aA,k,b,ÿF,rfl,eb,rfl)
def yP.k{H:Hp}{a:Vi}[72]{k:bF}{v:V}[168](hl:ăJ):yP H a Ēl v (Ķf):=.inl (aA,k,e,rfl,hl,rfl)
def yP.t[253][185]{k:ŭ}{v:V}[279](eb:ĉ1)(hl:ăJ):
  yP H a þb v (Ķg):=.inr (aA,k,b,e,rfl,eb,hl,rfl)
section
variable[172]{y v:V}{u r:Vg}{o:üm}{E:U!}
def aG.big[0]:sysModules<ü:=by have h:mainGlobals<ü:=(ĲA).lt;exact Āw ø h
def GZ(hu:ĈM)[0](g:qh H a y ÿP)[80](h:∀w' s',ďu->ĺp):
  wpAny Ć A (getItem ś u) Q E s:=by
 ext en
 .ext b;ext aY;ext cJ;let⟨w',hw,AI⟩:=Đ_ (v:=v) (o:=Ĝ1) ĵD;ext a;exact wpAny_getItem_of ĉT Ģo hw (ŀg)
 .ext aY;ext cX;ext b;ext eI;let⟨w',hw,AI⟩:=Đ_ (v:=v) (o:=ĻG) ĵD;let⟨p,hp,hp2⟩:=Option.map_eq_some_iff.mp hw;ext a;refine wpAny_getItem_heap (čG) (đe) dd hp ?_;rw[hp2];exact ŀg
def ad_(hu:ĈM)[0][346][80](h:∀s',ďu->Q (øk Ē7) s'):
  wpAny Ć A (compareOp .In u ś) Q E s:=by
 ext en
 .ext b;ext aY;ext cJ;ext a;refine wpAny_in_of ĉT hd Ģo ?_;rw[<-(Ĉw).qg,<-l];exact h _ Ċv
 .ext aY;ext cX;ext b;ext eI;ext a;refine wpAny_in_heap (čG) (đe) hd dd ?_;have q:=(Ĉw).qg;rw[ęI]at q;rw[<-q,<-l];exact h _ Ċv
def tF[74]{ob:HO}[0](mu:Mut (H a))(hs:Ń1)(he:Ĺa)(new:cf Đ X.w ļ9 h' a ob):
  aG X ak Y ļ9 Ăr:=
 ģx (x:=a) (e:=a) mu út (λb q hb z=>(hs.2 b hb).trans z) he new
def C0[72]{vs:Ĉd}(z:Ĉj)(hd:ăm)(rel:ĉA)(dd:ĠU ĉo a vs):
  cf P w H' h' a ü5:=(z,hd,vs,rel,dd)
def G0[128](hu:ĈM)[0](g:yP H a y v H')[80](rv:bh v r)(h:∀s',Āy->ĒU):
  wpAny Ć A (setItem ś u r) Q E s:=by
 rcases g with⟨aA,k,e,ey,l,eH⟩|⟨aA,k,b,e,ey,eb,l,eH⟩
 .ext b;subst ey eH;ext eH;ext a;have hz:Ă':=ėf
  ext hU
  refine wpAny_setItem_pairs (hsz:=hz) ĉT dd ķs;ext ih
  exact tF I Ćz hs he (C0 hl hd (rel.put k rv) N2)
 .subst ey eH;ext cX;ext b;let⟨z,hd,xs,rel,dd⟩:=abG I.bE e;ext a;have hz:ùX:=by rw[<-ăA rel];ext o
  ext hU
  refine wpAny_setItem_heap (hsz:=hz) (čG) (đe) dd ķs;ext b;let⟨q,es,ep,hq,h2,h3,h4,_,h5⟩:=N2;ext a;refine tF I Ćz hs (q,hq) (hl,hd,_,(rel.put k eb rv).keeps λc ys ec=>?_,q,es,ep,hq,h2,h3,h4,h5);rw[aO (aa8 ec e ûU)];exact ec
open e
section
variable[172][72]{k:bF}{u:Vg}{E:U!}
def abH{v:V}{more:Vc}[0][168](ry:Ģm)(l:Ąg=Ĥ)(hm:more=[]\/∃x,more=[x])(h:∀w' s',aG X ak Y (upd H a ķA) s'->ĺp):wpAny Ć A (call (Ő "dict.pop") (Ń4)) Q E s:=by
 ext eH;let⟨w',hw,AI⟩:=Đ_ (v:=v) (o:=Ĝ1) (by rw[<-l];exact Ĉw);have hp:(keyPart u).isSome=true:=by
  cases k with
  |inl i=>let⟨t,q⟩:=(show ČY from ry);subst q;rfl
  |inr x=>let⟨t,q⟩:=(show Ė1 from ry);subst q;rfl
 have ha:argsOk "dict.pop" (Ń4,[]):=by
  rcases hm with q|⟨x,q⟩
  .subst q;exact PySem.F.args_dict_pop_2 _ _
  .subst q;exact PySem.F.args_dict_pop_3 _ _ _
 refine call_meetsIn ĲH ăY PySem.F.entry_dict_pop ha (meets_dict_pop_there Ĉn a ĉT more hm hp)
  (vs,w',dd,ėf,hw,λh' N2 hs=>h w' _ ?_ AI)
 ext ih
 exact tF I Ćz hs he (C0 (ģ (Jx aA k) z) hd (rel.drop k) N2)
open e
def SW(i:Expr):Prop:=(∀ov iv,subscripted i false ov iv=operate [ov,iv] (getItem ov iv))
def N3[18][301]{slice:Expr}{T id:String}(hl:ħH)(hs:SW slice)(h:wpAny û A (eval value env) (λo ap=>wpAny û A (eval slice env) (λi dL=>dL.TypeIs o T/\wpAny û A Ļl Q E dL) E ap) E s):
  wpAny û A (eval (ĆT value slice pos) env) Q E s:=by
 refine Subscript_ (wpAny_mono h (λo ap h₁=>wpAny_mono h₁ (λi dL v4=>?_) đl) đl);let⟨hT,v4⟩:=v4;unfold subscriptTail;ext R;rw[getitemInPython_of_ne hT.not_modules];refine wpAny_bind (wpAny_specialOf hT hl ?_);have fin:wpAny û A (subscripted slice false o i) (λr ii=>wpAny û A (letTemporaryGo value o r >>= λ_=>pure r) Q E ii) E dL:=by rw[hs o i];exact wpAny_operating (wpAny_mono v4 (λr ii wT=>wpAny_bind (wpAny_letTemporaryGo (wpAny_pure wT))) đl)
 first
  |exact Įl
  |exact wpAny_bind (Įl)
  |exact ľd
def AR[172]{y:V}{o:üm}[0][346]:ľh:=by
 rcases g with⟨aA,k,e,_,_⟩|⟨aA,k,b,e,_,_,_⟩
 .let⟨_,_,vs,_,dd⟩:=oP I.bE e;exact ăY
 .let⟨_,_,xs,_,dd⟩:=xw I.bE e;exact ăY
def abI(td ty:TE):TE:=(λY H Q=>td Y H λx H1=>ty Y H1 λy H2=>∃a v,øo/\qh H2 a y ÿP/\Q v H2)
def abJ(td ty tv:TE):TS:=(λD Y H=>tv Y H λv H1=>td Y H1 λx H2=>ty Y H2 λy H3=>∃a H4,øo/\yP H3 a y v H4/\D.nx Y H4)
section
variable{i:Expr}{ty tv:TE}
def N4[318](hi:PE X i ty)(hs:SW i):PE X ĻL (abI td ty):=by ext q;refine N3 PySem.F.slot_dict_getitem.lookup hs (de ČG λu s1⟨x,H1,I1,rx,q1⟩=>de (hi ak s1 Y H1 _ I1 q1) λiv s2⟨y,H2,I2,ry,a,v,ex,g,q2⟩=>?_);ext be;exact(AR I2 g,GZ hu I2 g ry λw' s3 I3 AI=>(v,H2,I3,AI,q2))
def N5[318](hi:PE X i ty)[473](hs:ĦD):
  PS X Īm (abJ td ty tv):=by
 ext X;refine wpAny_Assign_Subscript (de Ĳm λr s1⟨v,H1,I1,rv,q1⟩=>de (ho ak s1 Y H1 _ I1 q1) λu s2⟨x,H2,I2,rx,q2⟩=>de (hi ak s2 Y H2 _ I2 q2) λiv s3⟨y,H3,I3,ry,a,H4,ex,g,q3⟩=>?_) hs;ext be;exact G0 hu I3 g ry rv λs4 I4=>(Y,H4,I4,q3)
open e
def Jz[15][468]:cf P w H ļU úG (ąf):=
 (ùM,ķq,[],.nil,ĻW h)
def JA[15][468]:cf P w H ļU úG (Ċx):=
 (ùM,ķq,[],.nil,_,#[],0,ùh,Ļw,rfl,rfl,ĽF)
def SX:TE:=(λ_ H Q=>∀p,ø9->Q øA (upd H p (ąf)))
def SY:TE:=(λ_ H Q=>∀p,ø9->Q øA (upd H p (Ċx)))
def JB:PE X Ďj SX:=λak s Y H Q I h=>
 wpAny_Dict_empty (ùr,_,úQ (a:=s.heap.objs.size) (o:=ąf) (t':=s.toks) ĘY ě (Jz ù I.big),rfl,h _ āz)
def JC:PE X Ďj SY:=λak s Y H Q I h=>
 wpAny_Dict_empty (ùr,_,úQ (a:=s.heap.objs.size) (o:=Ċx) (t':=s.toks) ĘY ě (JA ù I.big),rfl,h _ āz)
structure M1[458](e:Expr)(bw:Pos):Prop where
 base:Ĭf
 few:((ļb).all ěc&&ĕO
  && decide (([e]:ûr).length+ę1+ĕ7<30))=true
 line:ĖY
 trees:ļb=[Āh]
structure M2[458](e f:Expr)(bw:Pos):Prop where
 base:Ĭf
 few:((ĬE).all ěc&&ĕO
  && decide (([e,f]:ûr).length+ę1+ĕ7<30))=true
 line:ĖY
 trees:ĬE=[Āh,%[false|eval f Ā]]
def IsD[79]:Prop:=((∃aA,ă5)\/∃aA,Ğ_)
def C1[172][0](d:ģz):
  ľh /\ (∀b,þe=øM->∃ob,ą8=ÿB/\ĜX)/\ăm:=by
 rcases d with⟨aA,e⟩|⟨aA,e⟩
 .ext b;let⟨_,hd,vs,_,dd⟩:=oP I.bE e;ext a;refine ĵ0;ext b;ext jX;ext a;exact ĹF
 .ext b;let⟨_,hd,xs,_,dd⟩:=xw I.bE e;ext a;refine ĵ0;ext b;ext jX;ext a;exact ĹF
section
variable[172]{y d:V}{u r:Vg}{o:üm}{E:U!}
def S5(hu:ĈM)[0][346][80](rd:bh d r)(h:∀w' s',ďu->bh (ąv d) w'->Q w' s'):
  wpAny Ć A (call (Ő "dict.get") [Ņ,u,r]) Q E s:=by
 ext en
 .ext b;ext aY;ext cJ;ext a;refine call_meetsIn Ęq ăY ıH īi (meets_dict_get_default Ĉn a ĉT hd r) (_,Ģo,Ńt);ext mR
 .ext aY;ext cX;ext b;ext eI;ext a;refine call_meetsIn Ęq ăY ıH īi (meetsH_dict_get_default (tupleKind Ĉn) a b hd r) (čG,k,xs,đe,dd,Ńt);ext mR
open e
def S6(td ty tx:TE):TE:=(λY H Q=>td Y H λx H1=>∃a,øo/\IsD H1 a/\ty Y H1 λy H2=>tx Y H2 λz H3=>∃o,qh H3 a y o/\Q (ąv z) H3)
def S_(td ty:TE):TE:=(λY H Q=>td Y H λx H1=>∃a,øo/\IsD H1 a/\ty Y H1 λy H2=>∃aA k v,H2 a=úJ/\y=kV k/\Ąg=Ĥ/\Q v (upd H2 a ķA))
section
variable{f:Expr}{ty tx:TE}
def JD[318](he:PE X e ty)(hf:PE X f tx)(m:į'):PE X ĩN (S6 td ty tx):=by
 ext q;refine wpAny_Call_method m.base m.few m.line ėS Ęq PySem.F.type_dict_get ħW;ext be;ext lT;ext gl;rw[m.trees];refine ĆU rfl (čK (Ďb (de įf λiv s2⟨y,H2,I2,ry,q2⟩=>
  Ďb (de (hf ak s2 Y H2 _ I2 q2) λfv s3⟨z,H3,I3,rz,ov,g,q3⟩=>ęC ?_))))
 exact S5 hu I3 g ry rz λw' s4 I4 AI=>(_,H3,I4,AI,q3)
def JE(ho:Ġz)(he:PE X e ty)(m:ıF):PE X Īo (S_ td ty):=by ext q;refine wpAny_Call_method m.base m.few m.line ėS ĲH PySem.F.type_dict_pop ħW;ext be;ext b;ext lT;ext a;ext gl;rw[m.trees];refine ĆU rfl (čK (Ďb (de įf λiv s2⟨y,H2,I2,ry,aA,k,v,ea,ey,l,q2⟩=>ęC ?_)));ext aY;exact abH I2 ea ry l út λw' s3 I3 AI=>(v,_,I3,AI,q2)
open e
section
variable[172][72]{E:U!}
def JF[0](e:ă5)(h:∀p s',ø9->aG X ak Y ĻB s'->Q øA s'):wpAny Ć A (call ĀG ùd) Q E s:=by ext b;ext cJ;ext a;refine kt_call_dict hd dd (ėf) λh' N2 hs=>?_;refine h _ _ āz (úQ (a:=s.heap.objs.size) (o:=ąg) (t':=s.toks) (λb q hq=>?_) ě (C0 z (Ĳ7) rel N2));exact(hs.2 b (œ (ŉ hq))).trans (Ł _ hq)
open e
def nX.upd[242]{p:Vi}{o:HO}[280](h:H' p=none):nX H (upd H' p o):=λb u q=>by rw[aO (aS (e b u q) h)];exact e b u q
def sj[22][28]:Prop:=(Ēb)
def sj.bits[20][29](h:ĊZ):Ćm i<=k:=by
 unfold Ćm;by_cases hz:(i==0)=true
 .rw[ă0];ext as
 .rw[ĜV];have h0:Ā1 ≠0:=by intro e;apply hz;have:i=0:=İS;simp[this]
  have:=(ďJ h0).mpr h;ext c
def sj.le[20][24](h:sj k j)(e:Ā1<=Ģx):ĊZ:=Č_ e h
def sj.small[20][29](hk:10<=k)(h0:-1000<i)(h1:i<1000):ĊZ:=by show Ēb;have:2 ^ 10<=2 ^ k:=ü8 ø hk;omega
def EA[105]:Prop:=(∃a b,sj a i/\sj b j/\a<=üv/\b<=üv)
def EA.ok[24](h:EA i j):łH:=by let⟨a,b,h1,h2,h3,h4⟩:=h;exact IntMulOk.of_bits (ģ h1.bits h3) (ģ h2.bits h4)
def EB[105]:Prop:=(j≠0/\sj 9000 j)
def EB.ok[24](h:EB i j):Builtin.divisionGoesByPylong i j=false:=
 İb ((ďJ (by intro e;exact h.1 (İS))).mpr h.2)
def N6:dE X ĎE (rI EA λi j=>ĞY):=opI λ_ _ _ _ _ _ _ hc q=>PyProof.Rows.mul_int q hc.ok
def JG:dE X ıs (rI EB λi j=>ĭ5):=opI λ_ _ _ _ _ _ _ hc q=>floordiv_int hc.1 q (.inl hc.ok)
def C2(X:Cx)(ifs:ûr)(t:TT):Prop:=(
 ∀[16](Q:Ąk),ĥ->ýX ->
  wpAny Ć X.A (forIn ifs true λc r=>if r=true then do let ok <- isTrue c Ā (eval c Ā);ŀs else ŃJ) Ě0 X.xe s)
def abK:TT:=(λ_ H Q=>Q true H)
def N7:C2 X [] abK:=λ_ _ _ H _ I h=>wpAny_tests_nil (H,I,h)
def N8[186]{t:TT}(h:PT X c t):C2 X [c] t:=λak s Y H Q I hw=>wpAny_tests_one Ĳk
def jF.abL[235][199](hn:ĒP)(new:cf P w ĀV h a o):jF P w ĀV h:=λb u e=>by
 ext bZ
 ext jF
 .rw[aO hb]at e;exact Ľa (λc v _ q=>q) Ľr ŀW
def uz[276](cl:ü3)[331]:Cx:=(
 {X with N:=N,cr:=s,jp:=H,env:=ča,outer:=øt,stack:=øt,ex:=fp,fn:=ğL,pn:=[],xe:=Ĉz})
def qi[102](Y:St):St:=(ŝ k none++aX.map λj=>ęf)
structure uA[276](cl:ü3)[102]:Prop where
 sk:ĝ7
 sub:ļH
 has:∀x,į5->∃c,ćl
 iH:∀x∈ĚI,x.2≠ā0
 kind:Ğe
 names:∀x∈ĚI,x.2=.local->Āk x.1=ùZ
 len:ĚL
 at_:∀i j x,aX[i]?=úi->N[k+i]?=ī->ĦP
def uB(J:It)[102](g:TG)(tt:TT)[198](Y:St)(H1:Hp)(Q:VK):Prop:=(
 ∃W:Nat->Ŀ0,(∃m,W 0 m [] ĀU H1)/\∀i m ys τ H,W i m ys τ H ->
  (ĈU/\ďY/\∀p,ĵv) \/
  (ĄD/\û7<sizeLine/\∀x H',ćZ->g x τ H' λxz H2=>tt xz H2 λb H3=>if øR then te xz H3 λy H4=>∃m',m'<m/\W Ē m' đx xz H4 else ∃m',m'<m/\W Ē m' ys xz H3))
@[irreducible] def rE[102](wi:TI)(g:TG)(tt:TT)[198]:TE:=λY H Q=>Ėi
def JH[20][171](h:Ėi):İp:=by unfold rE;ext j
def xy[20][171](h:İp):Ėi:=by unfold rE at h;ext j
section
variable{s:Vh}
def N9[20]{Y:St}{v:V}(h:ĀU[i]?=ĀP):∃j,k<=i/\Ģi=úi/\Y[j]?=ĀP:=by
 unfold qi at h;by_cases hi:i<k
 .rw[øW ĘC,Č9]at h;split at h<;>cases h
 .rw[úl (by simpa using ćH hi),þi,ĭ]at h;cases e:Ģi with
  |none=>ext aB;ext e
  |some j=>
   ext aB;refine(j,ćH hi,rfl,?_);have h':ęf=Ĥ:=ĆG
   cases q:Y[j]? with
   |none=>rw[q]at h';cases h'
   |some o=>rw[q]at h';exact congrArg some h'
def aG.block[67][73][20][74]{m':U?}[0](B:þr)(hf:Ča)(hC:Ċ2)(hfp:ęu)(kp:Ĩx)(ns:h'.Ns C m'):aG ú1 [] ĀU H Ăr:=by
 have below:∀[132],Ŵ->b≠C:=λe=>œ (ľ ýH hC);have abM:∀x c,ćl->∃v,ęQ:=λx c e=>ùG x c ć3;refine((ĒS,?_,Ġn,ġ3,hC,λx y c h1 h2=>ġ4 x y c (ċm x c h1) (ċm y c h2),λx hx=>B.has x hx,λx c h1 _=>?_,I.ok.hd,ĐG,üw,λb hb=>(?_,þ4),I.bs,ĺT,λb o e hb=>?_,üd,ģw,I.yA),
  rfl,øS,ēE kp,(m',ns,λi x v h1 h2 h3=>?_),þ4,?_,λx c e=>I.ja x c ć3,Ĩv,I.bE.kept kp,?_)
 .exact B.kind
 .exact absurd h1 (by simp[uz])
 .ext fF;exact below e
 .exact þL.2.2.2.2.1 x c ć3
 .ext b;let⟨_,_,_,h4,_⟩:=hf b hb;ext a;rcases h4 with z|z
  .exact Ēr b o e z
  .exact absurd (ľ (ŉ ćO.1) z) úX
 .ext mh
  .exact þL.2.1 e
  .exact þL.2.2.1 e
 .ext b;let⟨j,hk,hj,hσ⟩:=N9 h2;ext a;have hN:N[k+(i-k)]?=ī:=by rw[Nat.add_sub_cancel' hk];ext an
  ext b;let⟨a1,a2,a3⟩:=B.at_ (i-k) j x hj hN;ext dj;have vis:ĒV:=by
   rcases a2 with z|z
   .exact .inr (.inl z)
   .exact .inr (.inr z)
  let⟨u,r,l⟩:=hl j x v a1 hσ vis;ext a;refine(u,r,.inr (a3,?_));rcases l with⟨z,_⟩|⟨_,c,e,cc⟩
  .rcases a2 with y|y<;>(rw[z]at y;cases y)
  .ext b;let⟨c',e'⟩:=B.has x a3;have:će x=some c':=ċm x c' e';rw[e]at this;ext bx;let⟨o,ho,hd⟩:=cc;ext a;exact(c,e',o,kp c o ho,hd)
 .ext b;let⟨v,o,ho,hd⟩:=abM x c e;ext a;exact(v,o,kp c o ho,hd)
 .exact ĈT hC
 .show(Ġ6).length=ĀH;unfold qi;rw[Ď,þi,č,B.len]
def uC[78](Y:St)(s:Vh)(Q:VK)(acc:Vg)(C:Vi)[83]:Prop:=(
 ∃D H',acc=ąk/\Ċ2/\Āy/\H' C=none/\(∃m,s'.heap.Ns C m)/\Q û9 H')
structure JI(C:ġY)(P:Vk)[27](K:Va)[437]:Prop where
 obj:ħf
 keep:ħr
 item:∀(X:Cx),Đ=P->X.w=w->X.K=K->C X->∀[5][16](E:U!),ĥ->ċb->ĉM->ĄD ->
  wpAny ýh X.A ĎY (λr s1=>∃u,r=Ę/\ĤW) E s
 done:∀(X:Cx),Đ=P->X.w=w->X.K=K->C X->∀[5][16](E:U!),ĥ->ċb->ĉM->ĈU ->
  Ħy
 self:Ħm
def Turn.c{K:Va}(T:Turn P w K tg J fp it tn):JI (λX=>ĈG) P w K tg J fp it tn:=(ċs,ĊG,T.item,T.done,T.self)
def cxG[276](cl:ü3)[331](xe:ĐN):Cx:=({İs with xe:=xe C})
def aG.xe{X:Cx}{ak:U'}[56][0](x:U!):aG {X with xe:=x} ak Y H s:=by ext b;let⟨⟨o1,o2,o3,o4,o5,o6,o7,o8,o9,o10,o11,o12,o13,o14,o15,o16,o17,o18⟩,i2,i3,i4,i5,i6,i7,i8,i9,i10,i11⟩:=I;ext a;exact((o1,o2,o3,o4,o5,o6,o7,o8,o9,o10,o11,o12,o13,o14,o15,o16,o17,o18),i2,i3,i4,i5,i6,i7,i8,i9,i10,i11)
def S!(X:Cx)(fp:Ve)(C:Vi)(s:Vh)(H:Hp):Prop:=(∃ak Y,ĥ/\ċb/\Ċ2)
def S?[35]{m:ąn}{Q Q':Ĥv}{E E':U!}{s:Vh}(he:∀x s',E x s'->E' x s')(h:wpAny M A m Q E s)(k:∀a s',Q a s'->Q' a s'):wpAny M A m Q' E' s:=wpAny_mono h k he
theorem wb{s:Vh}{target:Expr}[67]{it acc:Vg}[301]{R:ĀO}(I:Nat->øE)
  (turn:∀ n s,I n s->wpAny û A (pyNext it) (λr ap=>match r with
   |none=>R Đq ap
   |Ĥ=>wpAny û A (letOwnedTupleGo target it v) (λ_ Q0=>wpAny û A (assign target env v) (λ_ dL=>
     wpAny û A (forIn ifs true λc r=>if r=true then do let ok <- isTrue c env (eval c env);ŀs else ŃJ) (λok ii=>
      if ok=true then wpAny û A (eval elt env) (λx nw=>
       wpAny û A (call (Ő "list.append") [acc,x]) (λ_ sK=>∃m,m<n/\I m sK) Ăm nw) Ăm ii
      else ∃m,m<n/\I m ii) Ăm dL) Ăm Q0) Ăm ap) Ăm s)
  [7] (h:I n s):codeAny û A (.compLoop (.ListComp elt [(target,iter,ifs,0)] scope pos) 0 it acc env) R s:=by
 refine codeAny_loop rfl I (λn s hI=>?_) n h;refine wpAny_noted ?_;refine wpAny_bind (wpAny_standAt (wpAny_bind (wpAny_mono (turn n s hI) (λr ap h₁=>?_) ăK)));cases r with
 |none=>exact wpAny_pure h₁
 |some v=>
  refine wpAny_bind (wpAny_mono h₁ (λ_ Q0 abN=>?_) ăK);refine wpAny_bind (wpAny_mono abN (λ_ dL v4=>wpAny_bind (wpAny_mono v4 (λok ii wT=>?_) ăK)) ăK);cases ok with
  |false=>exact wpAny_pure (rfl,wT)
  |true=>exact wpAny_bind (wpAny_bind (wpAny_mono wT (λx nw GT=>wpAny_bind (wpAny_mono GT (λ_ sK Id=>wpAny_pure (wpAny_pure (rfl,Id))) ăK)) ăK))
def cxF[276](cs:ü3)[331](xe:ĐN)(fn:ür):Cx:=({uz X N scope cs C fp s H with xe:=xe C,fn:=fn})
def G1[67]{cs:ü3}[20][171][489]{xe:ĐN}{Cd:ġY}{fn:ür}{h₁:Heap}{tk:Nat}(hc:Cd ċc)(hg:PG ċc tg g)(hi:C2 ċc ifs tt)(he:PE ċc elt te)[0][432][313](I0:aG ċc [] ĀU H ĭN)(hC:C=ø_)(Ta:ĦX)(old:Įs)(cD:∀x c,ļd->ēM)(cF:∀b∈fp,∀x c,ļd->c≠b)(hRR:∀acc s',Ęf->RR acc āV Đq s')(mon:∀acc x s',xe C x s'->notedBy Ć X.A āV (λx s'=>RR acc āV ĐR s') x s'):
  codeAny Ć X.A (.compLoop Ăl 0 ùV øV āV) (RR øV āV) ĭN:=by
 ext b;ext kC;ext a;have hCs:Ċ2:=Ķb
 have hDC:ü ≠C:=ĭ'
 have ad!:=ċs 0 _ st;have hfp:ęu:=λb hb=>let⟨o,e,_⟩:=ad! b hb;(o,e)
 have hDf:∀b∈fp,ģM:=λb hb z=>by ext fF;exact absurd ýH Ėk
 have hD0:ďm:=Ćg;ext io;have nfs:∀b∈ýI,ģM:=λb hb z=>by let⟨_,o,ho,_⟩:=ŅJ hb;exact ĽU
 generalize Cu:ĤT=XB;have eP:XB.prog=Đ:=û1
 have eW:XB.w=X.w:=û1
 have eK:XB.K=X.K:=û1
 have eA:XB.A=X.A:=û1
 have eE:XB.env=ĤI:=û1
 have eL:XB.env.locals=C:=ŀb
 have eF:XB.fs=ýI:=û1
 have eX:XB.ex=fp:=û1
 have eN:XB.pn=[]:=û1
 have e0:XB.cr=s:=û1
 have eC:Cd XB:=by rw[<-Cu];exact hc
 have ecl:XB.env.cells=cs:=ŀb
 have exe:XB.xe=xe C:=û1
 have mon:=mon øV;have vY:PG XB tg g:=by rw[<-Cu];exact hg
 have N_:C2 XB ifs tt:=by rw[<-Cu];exact hi
 have he':PE XB elt te:=by rw[<-Cu];exact he
 rw[Cu]at I0
 -- II Q3 pinned
 have ad?:∀{τ:St}[200]{s':Vh}{aE:Vc}{nn:Nat},ĸl->įI->ŅG ->
   aG XB [Ğw] τ H' s':=λ{τ H' s' aE nn}J hd hn=>J.tu λp hp=>by
  obtain rfl:p=_:=ţ hp;refine(hd,hn,ĴY,by rw[eF];exact λz=>nfs _ z rfl,λv z=>?_);have z':ġZ ĺ nn=ĝF:=z;cases z'
 have CI:∀[200][100],Ć1->∀b∈fp,nU XB [%[ü|o]] H' b:=λ{H' o}hn b hb=>by
  let⟨_,f1,f2,f3,f4,f5⟩:=hf b hb;refine(hn b hb,?_,?_,.inl (by rw[eX];exact hb),λx c e=>cF b hb x c įW,øL)
  .rw[eL];ext fF;exact ĸ1
  .rw[eF];ext mh
   .exact f1 e
   .exact f2 e
  .rw[eN]at hp;obtain rfl:p=_:=ţ (ĸw);exact øv ŁJ
 refine wb (λn s'=>∃i ys aE nn τ H',ĸl/\įI/\ŅG/\Ģl/\tn i ù7/\Ć1/\W i n ys τ H') ?_ m0
  (0,[],[],0,Ġ6,H,I0,Ta,hD0,.nil,JJ,Ĉl,w0)
 intro n s3 aP;ext b;let⟨i,ys,aE,nn,τ,H3,I3,hd3,hn3,rv3,kG,fr3,w3⟩:=aP;have I3':=ad? I3 hd3 hn3;ext a;rcases turn i n ys τ H3 w3 with⟨stop,hz,qn⟩|⟨go,hz,step⟩
 .have D1:=T.done XB eP eW eK eC i _ s3 τ H3 Ħf I3' Ēj kG stop;rw[eA]at D1;refine de D1 Ĳ9;subst hr;refine hRR _ s4 ?_;ext b;let⟨pd,pn4,_⟩:=I4.pin Ğw (by rw[eN];exact üX _ ĕg);have N!:Un ÿR fp H H3 ù ĉ_:=by have:=I4.base;rw[<-Cu]at this;ext n
  have new:cf Đ X.w ĎF ĉ_ ü ăg:=(hz,aE,nn,rv3,pd)
  have ad':jF Đ X.w H3 ĉ_:=by have:=I4.bE;rw[eP,eW]at this;ext n
  have bE:jF Đ X.w ĎF ĉ_:=ad'.abL pn4 new;have os4:s4.os=s.os:=by have:=I4.os;rw[e0]at this;ext n
  have un:Un ÿR fp H ĎF ù ĉ_:=
   (N!.keep,N!.slot,λb o e n hx=>by rw[aO ĞX];exact N!.free b o e n hx,N!.there,
    λb xs e=>by rw[aO (aS (łL) pn4)];exact łL,λb o u e=>by rw[aO (aS (ĿZ) pn4)];exact ĿZ,
    λb ps e=>by
     let⟨more,q⟩:=N!.oJ b ps e;exact(more,by rw[aO (aS q pn4)];ext m))
  have I5:aG X ak Y ĎF s4:=I.xj os4 un bE I4.bare λb hb=>(þL.2.2.2.1,þL.2.1,ŀT,þL.2.2.2.2.2)
  have hC4:H3 C=none:=by have:=I4.free;rw[eL]at this;ext n
  ext a;refine(ü,_,rfl,hCs,I5,by rw[aO (øv hDC)];exact hC4,?_,qn _ pn4);ext b;let⟨m4,ns4,_⟩:=I4.loc;rw[eL]at ns4;ext a;exact(m4,ns4)
 .have D1:=T.item XB eP eW eK eC i _ s3 τ H3 Ħf I3' Ēj kG go;rw[eA]at D1;refine de D1 ıj;subst hr;refine ĨU;ext jb;have G:=vY _ s5 τ H5 x u _ I5' r5 ĹH;rw[eP,eW,eA,eE,exe]at G;refine S? mon G λ_ s6⟨EQ,H6,I6,q6⟩=>?_;have G2:=N_ _ s6 EQ H6 _ I6 q6;rw[eP,eW,eA,eE,exe]at G2;refine S? mon G2 λok s7⟨H7,I7,q7⟩=>?_
  -- adP II ak give back
  have back:∀{Ix:St}{H8:Hp}{s8:Vh},aG XB ([%[ü|(če:Obj)]]++ŀG) Ix H8 s8 ->
    aG XB [] Ix H8 s8/\ŃL ü=some če/\H8 ü=none/\tn Ē s8.heap/\∀b∈fp,H8 b=none:=λ{Ix H8 s8}J=>by
   let⟨p1,p2,_⟩:=J.pin Ğw (üX _ (Ću _ ĕg));refine(J.tu λp hp=>absurd (hp) Ĉ,p1,p2,ĊG _ _ _ Sg λb hb o e=>ķH.1,üd);ext ke;exact ķH.2.1
  cases ok with
  |false=>
   ext b;let⟨m',hm,w7⟩:=q7;let⟨J,a1,a2,a3,a4⟩:=back I7;ext a;exact(m',hm,i+1,ys,aE,nn,EQ,H7,J,a1,a2,rv3,a3,a4,w7)
  |true=>
   have G3:=he' _ s7 EQ H7 _ I7 q7;rw[eP,eW,eA,eE,exe]at G3;refine S? mon G3 λv s8⟨y,H8,I8,r8,m',hm,w8⟩=>?_;ext b;let⟨J,a1,a2,a3,a4⟩:=back I8;have hlen:=rv3.length;ext a;refine call_meets ĶV (_,a1,rfl) ĴD ĭr (ĸg ü ĺ nn v ĘA) (a1,?_);ext b;have q:=ĺe a1 (ık);have other:∀b o,ģM->ŃL b=Ă->łr b=Ă:=λb o hb e=>(üZ s8.heap Ņn Ġg).trans e;have J':aG XB [] EQ H8 {s8 with heap:=ĥB}:=
    J.turned other a2 (ĴY) (.inr (by rw[e0];ext K)) (λx c e=>cD x c įW) λp hp=>absurd (by rw[eN]at hp;exact hp) Ĉ
   obtain⟨n2,q2⟩:∃n2,łr ü=some {cls:=ûY,data:=.seq Ĵq n2}:=by
    have e1:aE.toArray.push v=Ĵq:=Ń
    rw[<-e1];exact(_,q)
   ext a;exact(m',hm,i+1,ys++[y],aE++[v],n2,EQ,H8,J',q2,a2,rv3.append (Ċ r8 .nil),ĊG _ _ _ a3 λb hb o e=>other b o ŁJ e,a4,w8)
def C3[67][73][20][171][489]{E:U!}{xe:ĐN}{Cd:ġY}(hc:∀D,Cd (cxG X N scope cl D fp s H xe))(B:þr)(hg:∀C fp s H,PG ĖR tg g)(hi:∀C fp s H,C2 ĖR ifs tt)(he:∀C fp s H,S! X fp C s H->PE ĖR elt te)[0][432][313](hRR:∀acc C s',Ęf->RR acc (ča) Đq s')(mon:∀acc C x s',xe C x s'->notedBy Ć X.A (ča) (λx s'=>RR acc (ča) ĐR s') x s'):
  wpAny Ć X.A ļZ (λacc ii=>wpAny Ć X.A Ħq (λJK nw=>
   codeAny Ć X.A īF (RR acc Ħb) nw) E ii) E s:=by
 refine wpAny_newObj_type (wpAny_newFunctionEnv B.iH (by intro y hy;simp at hy) (λh₁ JL C4=>?_) B.kind);generalize hH2:ø0 {cls:=ûY,dict:=none,data:=.seq ķJ} = H2 at JL C4⊢;have hC:Đi=ø_:=by rw[<-hH2,ûb]
 have hCs:ü<=Đi:=Ķb
 have hDC:ü ≠Đi:=ĭ'
 have old:Įs:=λb o e=>C4.extBut b o (ĸ1) (Ł _ (hH2▸þ6));have Ta:ĦX:=C4.extBut _ _ hDC (Ł _ (hH2▸ùh));have hfp:ęu:=λb hb=>let⟨o,e,_⟩:=ċs 0 _ st b hb;(o,e)
 have abO:∀x c,ćl->ēM:=λx c e z=>by let⟨v,o,ho,_⟩:=ùG x c ć3;exact ĽU
 have loop:=G1 (iter:=iter) (pos:=pos) (tk:=üu+([]:ć0).length) (hc _) (hg _ _ _ _) (hi _ _ _ _) (he _ _ _ _ (ak,Y,I,hf,hCs)) I T st hf h ((I.block B hf hCs hfp old JL).xe (xe Đi)) hC Ta old abO (λb hb x c e=>ŀT x c ć3) (λacc s' q=>hRR acc _ s' q) (λacc x s' q=>mon acc _ x s' q);ext io;exact codeAny_compStart_list loop (T.self X.A 0 _ _ _ JJ loop)
def xC[67][73][20][171]{RR:Vg->Vi->ĀO}{E:U!}[42](B:þr)(hg:ıl)(hi:įM)(he:įN)[0](T:Ĭw)[313](hRR:∀acc C s',Ęf->RR acc C Đq s'):
  wpAny Ć X.A ļZ (λacc ii=>wpAny Ć X.A Ħq (λJK nw=>
   codeAny Ć X.A īF (RR acc JK.locals) nw) E ii) E s:=by
 have z:=C3 (RR:=λacc en=>RR acc en.locals) (E:=E) (iter:=iter) (pos:=pos) (λ_=>hc) B hg hi (λC fp s H _=>he C fp s H) I T.c st hf h hRR λ_ _ _ _ q=>ąw;ext o
open e
section
variable[67]{JM:Pos}[73][20]{g:TG}
def aG.xD{cx:St}{s s':Vh}[0](hC:Ċ2)(I':þw)(hn:H' C=none)(sb:Āu C ù7 h'):
  aG X ak cx H' {s' with heap:=h'}:=by
 refine I'.turned (ĖT) hn (ûd (ľ I.lt hC)) (.inr (ģ I.sz hC)) (þ4) øL
 .ext lc;exact œ Ľn
 .exact œ (ľ ĵ1 hC)
def N?[42](B:þr)[394][153]:PE X Ăl ıy:=by ext q;refine Ĥ7;ext b;ext iG;ext a;ext ik;ext b;let⟨D,H',rfl,hC,I',hn,⟨m,ns⟩,q⟩:=aP;ext a;exact(m,ns,λh' sb=>(ąk,H',I2.xD hC I' hn sb,rfl,q))
def C5{py:Pos}[126](hy:Ďn=ûE)(hx:Loc ĀJ y)[42](B:þr)[394][398][153][411]:
  PS X ĬO (R' ıy Ĕb):=by
 ext X;rw[exec_Assign_Name_used _ _ _ _ hsw];refine wpAny_bind (wpAny_standAt (ăC));refine wpAny_bind (wpAny_mono (Ĥ7) (λ_ s' hq=>wpAny_pure (wpAny_pure hq)) ğJ);ext b;ext iG;ext a;ext ik;ext b;let⟨D',H',rfl,hC,I',hn,⟨m,ns⟩,q⟩:=aP;ext a;refine wpAny_assign_Name (p8 I' hN hy hx (v:=.ref D') rfl (λs'' I'' ŀ8=>?_) hf);have hCa:C≠a:=by
  rcases ha with e|e
  .rw[e];exact ûd (ľ I2.lt hC)
  .let⟨v,o,ho,_⟩:=I2.cell y a e;exact ûd Ľn
 exact(m,ns.sameBut sb hCa,λh' sb'=>(_,H',I2.xD hC I'' hn sb',q))
open e
section
variable{K:Va}[171]
def N'[20][7](hn:ĝX)(Pv:Ŀ0)(h0:Pv 0 [] ĀU H)(hgo:∀i ys τ H,i<n->Đk->ĄD)(CD:∀ys τ H,łX->J.stop n H)(hl:∀i ys τ H,Đk->û7<=i)(hs:∀i ys τ H x H',i<n->Đk->ćZ->∀K1:ķ->ùa,(∀ys τ H,ĽH->K1 ys τ H)->g x τ H' λxz H2=>tt xz H2 λb H3=>if øR then te xz H3 λy H4=>K1 đx xz H4 else K1 ys xz H3)(hd:∀ys τ H p,łX->ĵv):ıb:=by
 refine(λi m ys τ H=>m=n-i/\i<=n/\Đk,(n,Ń,ùM,h0),?_);rintro i m ys τ H ⟨rfl,hi,p⟩;have hy:=hl i ys τ H p;by_cases oQ:i<n
 .refine .inr (hgo i ys τ H oQ p,ø,λx H' y=>?_);exact hs i ys τ H x H' oQ p y (λys τ H=>∃m',m'<n-i/\m'=n-Ē/\i+1<=n/\ĽH) λys τ H q=>(n-Ē,ÿs,rfl,oQ,q)
 .have e:i=n:=ø
  ext l;exact .inl (CD ys τ H p,ø,λq hq=>hd ys τ H q p hq)
open e
def dm[10][15](i l:Vi)[22]:Prop:=(match b with|true=>ĜT i l k|false=>ŀh i l k)
def jn[10][15](l:Vi)(xs:Ů):Prop:=(match b with|true=>h.IsList l xs|false=>h.IsTuple l xs)
def dm.keep[1]{i l:Vi}[20][497](e:∀o,øJ i=Ă->ùn i=Ă):dm b h' i l k:=by
 cases b with
 |true=>exact Heap.IsListIter.at x e
 |false=>exact Heap.IsTupleIter.at x e
def jn.keep[1]{l:Vi}{xs:Ů}(x:jn b h l xs)(e:∀o,øJ l=Ă->ùn l=Ă):jn b h' l xs:=by
 cases b with
 |true=>exact Heap.IsList.at x e
 |false=>let⟨o,ho,r⟩:=(x);exact(o,e _ ho,r)
def dm.there[1]{i l:Vi}[20][497]:∃o n vs,øJ i=Ă/\āH=ċ1/\úK=Ċq:=by
 cases b with
 |true=>ext iZ
 |false=>ext iZ
section
variable[18]
def uD{t:Vi}[133]{x:Vg}[422](hx:đW=ī)(hQ:∀h',h'.IsTupleIter it t Ē->ŃW):Čg:=by ext b;ext iq;ext a;ext gN;ext oM;refine wpAny_bind (wpAny_setField Q4 di Ĉ (wpAny_pure (x,rfl,wpAny_pure (hQ _ ?_ (ĖM)))));exact(_,ĆH _ Q4 (čC (Āp di _)),Ĭr ci,by rw[Āp di];simp[rawInt])
def wc{t:Vi}[133][70][422][412]:Čg:=by
 ext b;ext iq;ext a;ext gN;ext oM;refine wpAny_bind (wpAny_rule (wpAny_bind (wpAny_setField Q4 di Ĉ ?_)));ext R;ext gV;ext jL
 first|rw[ĺM]|rw[hh]
 ext iM;exact hE _ _ īC Ĝe
def jZ[1]{t:Vi}[133]{x:Vg}[434](hx:đW=ī)(hQ:∀h',dm b h' it t Ē->ŃW):Čg:=by
 cases b with
 |true=>exact wpAny_nextOf_list_item hit ht hx hQ
 |false=>exact uD hit ht hx hQ
def rG[1]{t:Vi}[133][70][434][412]:Čg:=by
 cases b with
 |true=>exact wpAny_nextOf_list_end hh hit ht hx hE
 |false=>exact wc hh hit ht hx hE
open e
abbrev uE[10](l:Vi):Obj:={cls:=ĸ (match b with|true => "list_iterator"|false => "tuple_iterator"),data:=Ĵ9}
section
variable[18]
def dm.new[10]{i l:Vi}(e:øJ i=some (uE b l)):dm b h i l 0:=by
 cases b with
 |true=>exact ĺ5
 |false=>exact ĺ5
def uF[1]{l:Vi}{xs:Ů}(h:jn b ù l xs)(hQ:Q øV {s with heap:=ø0 (uE b l)}):wpAny û A (pyIter ąF) Q E s:=by
 cases b with
 |true=>exact wpAny_pyIter_list h hQ
 |false=>exact wpAny_pyIter_tuple h hQ
def Oa[271]{x y a b:Vg}[259][261][457]
  (hQ:∀ h',Ĭ4->Ĺ0->ĲX->ĲY->ĸa ->
   Čf->Q øV Ţ):
  wpAny û A ĨM (λfin s'=>∃v,fin=ûK ğV/\Q v s') E s:=by
 ext gP;ext R;ext hM;refine wpAny_bind (wpAny_rule (wpAny_bind (wpAny_field hz rfl (x:=.ref TO) rfl Ħ2)));ext jo;ext R;simp only[Ĺ9,List.zipIdx_nil,ĻZ,ĽE];refine ĕJ;show wpAny _ _ (ėA Ğy >>= _) _ _ _;refine wpAny_bind (jZ (b:=b1) Ėf Ėe hx ļA);ext gX;replace zn:IsPair xL TO x b:=zn;ext iC;show wpAny _ _ (ėA Ğz >>= _) _ _ _;refine wpAny_bind (jZ (b:=b2) ĥn ĥD hy λDb IN nw=>Ăj);have Fk:IsPair Db TO x b:=đ3 _ _ D.TOi2 zn;refine wpAny_bind (wpAny_seqItems Fk rfl (wpAny_bind (wpAny_updateSeq_pair Fk λon At sK=>?_)));replace At:IsPair on TO x y:=At;refine wpAny_bind (wpAny_letGo (wpAny_pure (wpAny_pure (wpAny_bind (wpAny_seqItems At rfl (wpAny_bind (wpAny_newTuple ?_)))))));have sz:ďb=ü:=by rw[sK.1,nw.1,ii.1,dL.1,ap.1]
 have Fr:IsZip on z TI TO Ċe:=Ąw _ _ D.TOz.symm (đ3 _ _ D.i2z.symm ĦU);have kp:∀c o,c≠z->c≠TO->c≠i1->c≠i2->ġg->ŀr:=λc o n1 n2 n3 n4 e=>Ąw _ _ n2 (đ3 _ _ n4 (ÿj _ _ n2 (Ąr _ _ n3 (Ā3 _ _ n1 e))));have IO:dm b1 on i1 l1 (k1+1):=Fa.keep λo e=>Ąw _ o ŅA (đ3 _ o D.i12 (ÿj _ o ŅA e));have IR:dm b2 on i2 l2 (k2+1):=IN.keep λo e=>Ąw _ o ŅB e;have zlt:z<ďb:=ŉ Fr;ext R;have KB:IsZip (on.push {cls:=ùk,data:=.seq #[x,y]}) z TI TO Ċe:=Ł _ Fr;refine wpAny_bind (wpAny_setField_rec KB Ĉ λKE Do FS=>?_);replace Do:IsZip KE z TI TO ļ5:=Do;refine wpAny_setField_rec Do Ĉ λAC AT Gc=>?_;replace AT:IsZip AC z TI TO ļ5:=AT;have up:∀c o,c≠z->ŀr->AC.get? c=Ă:=λc o n e=>Gc.extBut _ _ n (FS.extBut _ _ n ąE);have Go:IsPair AC ďb x y:=Gc.extBut _ _ Ņi (FS.extBut _ _ Ņi (ùh));rw[sz]at AT Go;refine wpAny_pure ĈP;rw[sz];exact hQ AC AT (up _ _ D.TOz At) (IO.keep λo e=>up _ o D.i1z e) (IR.keep λo e=>up _ o D.i2z e) Go λc o n1 n2 n3 n4 e=>up c o n1 (kp c o n1 n2 n3 n4 e)
def Tc[271]{a b:Vg}{Q:Fin->øE}[70][259][261][440](hE:∀h' e,Čf->Ĥ_):
  wpAny û A ĨM Q E s:=by
 ext gP;ext R;ext hM;refine wpAny_bind (wpAny_rule (wpAny_bind (wpAny_field hz rfl rfl Ħ2)));ext jo;ext R;refine ĕJ;cases hx:Ĥa with
 |none=>
  refine wpAny_bind (rG hh Ėf Ėe hx λwv e dL ľE=>?_);have GE:IsZip wv z TI TO Ċe:=dL _ _ D.i1z.symm rH;have nez:e≠z:=λq=>by subst q;rw[GE]at Ob;ext oo
  exact wpAny_setField_rec GE Ĉ λxL _ ii=>hE xL e (λc o n1 _ n3 _ q=>ÿj _ _ n1 (dL _ _ n3 ĹK)) (oe,ÿj _ _ nez Ob,ce)
 |some x=>
  have hy:ŃP:=by
   rcases he with q|q
   .rw[hx]at q;ext M
   .ext m
  refine wpAny_bind (jZ Ėf Ėe hx ļA);ext gX;ext iC;refine wpAny_bind (rG hh ĥn ĥD hy λDb e nw ľE=>?_);have GM:IsZip Db z TI TO Ċe:=nw _ _ D.i2z.symm ĦU;have nez:e≠z:=λq=>by subst q;rw[GM]at Ob;ext oo
  exact wpAny_setField_rec GM Ĉ λon _ sK=>hE on e (λc o n1 n2 n3 n4 q=>Ąw _ _ n1 (nw _ _ n4 (ÿj _ _ n2 (Ąr _ _ n3 ĹK)))) (oe,Ąw _ _ nez Ob,ce)
def G4[271]{x y a b:Vg}[169][259][261][457]
  (hQ:∀ h',Ĭ4->Ĺ0->ĲX->ĲY->ĸa ->
   Čf->Q (some øV) Ţ):ĵg:=by
 ext mb
 exact wpAny_bind (wpAny_attempt (wpAny_callSpecial?_slot tz Ď5
  (wpAny_call_entry Ď5 tz ĹX (Oa D hz yQ AA h1 h2 Nf Jr hx hy λh' a1 a2 a3 a4 a5 a6=>wpAny_pure (hQ h' a1 a2 a3 a4 a5 a6)) İD)))
def JN[271]{a b:Vg}[169][70][259][261][440](hQ:∀h',Čf->Q none Ţ):ĵg:=by
 ext mb
 refine wpAny_bind (wpAny_attempt (wpAny_callSpecial?_slot tz Ď5
  (wpAny_call_entry Ď5 tz ĹX (Tc hh D hz yQ AA h1 h2 Nf Jr he λh' e hk he=>?_) İD)))
 ext b;let⟨o,ho,hc⟩:=he;ext a;exact wpAny_bind (wpAny_isInstance ül isSubtype_stop (wpAny_pure (hQ _ hk)))
abbrev zH1(b1:Bool)[15](l1:Vi):Heap:=h.push ĝz
abbrev zH2[69][15][232]:Heap:=(ņQ).push Ł_
abbrev zH3[69][15][232]:Heap:=(ĸT).push {cls:=ùk,data:=.seq #[.ref úG,.ref (ņQ).úz]}
abbrev zH4[69][15][232]:Heap:=(ĸU).push {cls:=ùk,data:=.seq #[ė,ė]}
abbrev zH5[69][15][232]:Heap:=(zH4 b1 b2 h l1 l2).push {cls:=ġi,data:=ûu #[ė,Ēd,Ēd,.ref (ĸT).úz,.ref (ĸU).úz]}
def JO[69][232](xs ys:Ů):
  Meets (Builtin.«zip.__new__» ([ġi,.ref l1,.ref l2],[])) (λ_ R s=>ĚD/\ĚE/\R (.ok (.ret (.ref ėo))) {s with heap:=Ĵ6}):=
 .of_wp λprog w A R s h=>by
  ext ft;let⟨q1,q2,h⟩:=h;have abP:=sub_zip;have w1:jn b1 (ŅQ (hp,g,d,tk,os)) l1 xs:=q1;have w2:jn b2 (ŅQ (hp.push ĝz,g,d,tk,os)) l2 ys:=q2.keep λo e=>þ6
  wp_walk using uF w1,uF w2
  exact ĞC
def JP{b1:Bool}{xs ys:Ů}(Nf:ĚD)(Jr:ĚE)
  (h:∀ h',IsZip h' (ü+4) (üH) (ċX) ė->IsPair h' (üH) øV (.ref úg)->IsPair h' (ċX) ė ė ->
   dm b1 h' ü l1 0->dm b2 h' úg l2 0->(ğQ)->Q (.ref (ü+4)) Ţ):
  wpAny û A (call (ġi) [.ref l1,.ref l2]) Q E s:=by
 refine callType_new F.called_zip ø (F.typeCall_zip_2 _ _) (F.newCall_zip_2 _ _) (λobj=>F.args_object_init_3 obj _ _) F.entry_zip_new (JO b1 b2 l1 l2 xs ys) (Nf,Jr,?_);have z1:Ĳt=ø_:=ûb ..;have z2:ĭX=üH:=by rw[ûb,z1]
 have z3:ĭY=ċX:=by rw[ûb,z2]
 have z4:ėo=ü+4:=by rw[ûb,z3]
 have g5:ĆE ėo=ąy:=ùh;have g4:ĆE ĭY=ąy:=ęb;have g3:ĆE ĭX=ąy:=Ķm;have g2:ĆE Ĳt=some Ł_:=ņW;have g1:ĆE ü=some ĝz:=Ł _ (ņW);rw[z2,z3,z4]at g5;rw[z1,z2]at g3;rw[z3]at g4;rw[z1]at g2;rw[z4];exact((_,g5,rfl),h _ g5 g3 g4 (.new b1 g1) (.new b2 g2) λc o x=>Ł _ (Ł _ (Ł _ (Ł _ (Ł _ x)))))
open e
def C6[10](K:Va)[79][71]:Prop:=(match b with|true=>ăf|false=>ýB)
def aG.sqx{s:Vh}[1]{a:Vi}[144][0][464]:∃aE:Vc,āl/\jn b ù a ĺ/\ùX:=by
 cases b with
 |true=>let⟨aE,r,p,z⟩:=ù8 h;exact(aE,r,āo,z)
 |false=>let⟨aE,r,p,z⟩:=ø' h;exact ŁC
def aG.EC{s:Vh}[1]{a:Vi}[229][0][464](h':C6 b X.K H a ys):ąL:=by
 cases b with
 |true=>exact I.oK h h'
 |false=>exact I.p9 h h'
def aG.Q5{s:Vh}[1]{l c:Vi}{zs:ķ}[0](hs:ĻR)(f:nU X ak H c):l≠c:=by
 intro q;have mo:∀o,X.K.lookup l=Ă->False:=λo hk=>by
  have e:=I.mod.QP l o hk;rcases f.2.2.2.1 with z|z
  .exact Ēr l o e ĵ5
  .exact absurd (ľ (ŉ (ģv l o e).1) ĵ5) úX
 have tr:∀o,H l=Ă->False:=λo e=>by rw[q,f.1]at e;ext g
 cases b with
 |true=>
  ext iT
  ext dJ
  ext dJ
  .exact mo o hk
 |false=>
  ext iT
  ext dJ
  ext dJ
  .exact mo o hk
def Itz(K:Va)[69](a b:Vi):It:=(
 (λi H=>∃xs ys x y,ěh/\ěi/\ûk/\ys[i]?=ûE,
  λi H v H'=>∃p x y,v=úI/\ø9/\H'=upd H p (ġW)/\(∀xs,ěh->ûk)/\∀ys,ěi->ys[i]?=ûE,
  λi H=>∃xs ys,ěh/\ěi/\(į<=i\/û7<=i)))
theorem JQ{K:Va}[143]{b1:Bool}{z TI TO:Vi}(a b:Vi)(ne:z≠TI/\z≠TO/\z≠i1/\z≠i2/\TI≠TO/\TI≠i1/\TI≠i2/\TO≠i1/\TO≠i2/\i1≠i2):
  Turn P w K ûX Ĵj Ď8 z (λi h=>IsZip h z TI TO ė/\IsPair h TI Ğy Ğz/\(∃u v,IsPair h TO u v)/\dm b1 h i1 a i/\dm b2 h i2 b i) where
 mem:=Ń
 obj:=λi h ĬL c hc=>by
  have bW:Įb:=Ă_
  rcases bW with rfl|rfl|rfl|rfl|rfl
  .exact(_,hz,ĥg)
  .exact(_,yQ,ħe)
  .exact(_,AA,ħe)
  .ext b;let⟨o,n,vs,e,_,d⟩:=h1.there;ext a;exact ĪI
  .ext b;let⟨o,n,vs,e,_,d⟩:=h2.there;ext a;exact ĪI
 keep:=λi h h' ĬL k=>(k z Ĉ _ hz,k TI Ĉ _ yQ,(u,v,k TO Ĉ _ AA),h1.keep λo e=>k i1 Ĉ o e,h2.keep λo e=>k i2 Ĉ o e)
 item:=by
  ext N;ext b;ext T;ext jG;let⟨xs,ys,x,y,sx,sy,ex,ey⟩:=hg;ext ii;ext kR;let⟨uy,euy,ry⟩:=rv2.get ey;ext jf;have fz:=hf z Ĉ;ext hj;ext gT
  ext a;refine G4 (b1:=b1) (b2:=b2) D hz yQ AA h1 h2 p p2 (x:=ux) (y:=uy) ıv (by simpa using euy) λh' a1 a2 a3 a4 a5 a6=>ĈP
  ext gn;ext gO
  have bE:jF Đ X.w ĆK h':=λc o e=>by
   ext gd
   .subst Q6;rw[bg]at e;ext g;exact(ėq,[ux,uy],Ċ rx (Ċ ry .nil),_,a5,rfl,_,rfl)
   .rw[aO Q6]at e;refine ķG ĭ1 (λd q=>Čn) λd zs q=>Čn
    ext dn
    ext mE
    ext dv
  have un:Un ÿR Ĉv H ĆK ù h':=
   (Ķp,ĵr,λc o e n bW=>by rw[aO ĞX];exact n,Ķo,
    λc zs e=>ĭ_,λc o u e=>ĭ_,λc ps e=>(#[],by rw[Ńb,e];simp))
  have I1:aG X ak Y ĆK Ţ:=Ĥ0
  have fpT:∀c∈Ď8,ēM:=λc bW q=>by
   have oQ:c<ü:=by
    have JR:Įb:=ęK
    rcases JR with r|r|r|r|r
    .rw[r];exact ŉ hz
    .rw[r];exact ŉ yQ
    .rw[r];exact ŉ AA
    .let⟨o,_,_,e,_⟩:=h1.there;rw[r];ext J
    .let⟨o,_,_,e,_⟩:=h2.there;rw[r];ext J
   exact ĬD
  have Q7:∀c∈Ď8,ĆK c=none:=Ĩk
  refine wpAny_letOwnedTupleGo_zip a1 λJS aea sb=>?_;ext b;ext eM;have I2:aG X ak Y ĆK ĸV:=Ġo (λc o bW e=>ĵ7 e) (Q7 z Ĉ) f1 f3 f4 f5;ext a;refine(ùr,_,I2,rfl,(_,x,y,rfl,hT,rfl,λzs hs=>by rw[I.EC hs sx];exact ex,λzs hs=>by rw[I.EC hs sy];exact ey),(aea,?_,(_,_,ĉj _ _ n2.symm a2),a3.keep λo e=>ĉj _ o n3.symm e,a4.keep λo e=>ĉj _ o n4.symm e),Q7);exact ĉj _ _ ģX (a6 _ _ ģX n5 n6 n7 yQ)
 done:=by
  ext N;ext b;ext T;ext jG;let⟨xs,ys,sx,sy,hl⟩:=hg;ext ii;have l1:=üe;have l2:=rv2.length;ext jf;ext hj;ext gT
  ext a;refine JN úE D hz yQ AA h1 h2 p p2 (by rcases hl with q|q;exact .inl ćy;exact .inr ćy) λh' a6=>Ēn
  ext gO
  have bE:ļi:=λc o e=>by
   refine ķG ĭ1 (λd q=>q) λd zs q=>q;ext dn
   ext mE
   ext dv
  have un:Un ÿR Ĉv H H ù h':=
   (Ķp,ĵr,λc o e n bW=>n,Ķo,λc zs e=>e,λc o u e=>e,λc ps e=>ı8)
  exact Ĥ0
 self:=λ_ _ _ _ _ st h=>wpAny_pyIter_zip st.1 h
section
variable{tp p:Pos}
def aeb(K:Va)[69](ta:TA):TI:=(λY H R=>ta Y H λvs H1=>∃a b,vs=[Ņ,øM]/\(∃xs,C6 b1 K H1 a xs)/\(∃ys,C6 b2 K H1 b ys)/\R Ĵj H1)
def Te[69]{ea eb:Expr}{ta:TA}[444](ha:PA X ēF ta)[389]:
  PI X ûX Īp (aeb X.K b1 b2 ta):=by
 ext bn;refine Call_ (kP I hg hm boot_zip ĨN);ext b;let⟨a,b,e,⟨xs,sx⟩,⟨ys,sy⟩,q⟩:=q1;ext l;let⟨u,u2,rfl,ru,Tf⟩:=vals2 r1;cases ru;cases Tf;let⟨aE,rv,p1,_⟩:=I1.sqx sx;let⟨cP,rv2,p2,_⟩:=I1.sqx sy;ext a;refine JP p1 p2 λh' hz yQ AA g1 g2 kp=>wpAny_pyIter_zip hz ?_;ext iA;refine(_,[Œ+4,Œ+2,Œ+3,Œ,ą'],_,_,H1,rfl,I2,JQ a b ?_,(hz,yQ,(_,_,AA),g1,g2),Ĉ6,q)
 .refine(?_,?_,?_,?_,?_,?_,?_,?_,?_,?_)<;>(intro z;have z':(_:Nat)=_:=z;ext c)
 .have hle:Œ<=c:=by
   have bW:c=Œ+4\/c=Œ+2\/c=Œ+3\/c=Œ\/c=ą':=Ă_
   rcases bW with r|r|r|r|r<;>(ext mD)
  exact Ķa
open e
def cf.there[235](x:ďv):∃ob,úW=ÿB:=by
 cases o with
 |lst xs=>ext ni;ext ar
 |tup xs=>let⟨_,_,_,ob,e,_⟩:=x;ext ar
 |dK aA=>ext cT;ext ar
 |dT aA=>ext cT;ext ar
 |set S n=>ext mz;ext ar
 |ins C dx fs=>ext nj;ext ar
 |own y=>let⟨_,e⟩:=x;ext ar
 |xd fs=>ext kr;ext ar
 |rng lo hi=>ext nQ;ext ar
 |jl ob u=>let⟨e,_⟩:=x;ext ar
 |M9 ps=>exact(_,(x))
 |met f y=>exact(_,(x))
 |ext φ=>let⟨_,e,_⟩:=x;exact e
structure Fly(P:Vk)[27](l:ûj)[293](s s':Vh)[370]:Prop where
 os:ğz
 bare:Ď4
 un:Un (iu l) [] H H' ù ù7
 bE:ŀk
 fl:∃(B:Heap)(t:Vi),þn B l ea cls ÿd ù7/\(∀b,H' b≠none->ľM)/\(∀b o,Ŵ->b ∉ iu l->ČN)
 tr:uq ù7 ea
def kU(P:Vk)[27]:Cs:=(λouter H s E e s'=>∃ea cls H',e=þ1/\Fly P w outer H H' s s' ea cls/\E cls none H')
section
variable[124][292][67]{cd:Vg}[368]
def AU[301]{L:Vi}[158](l:ûj):iu (env::l)=L::iu l:=by ext eB
def G5{s:Vh}{e:Vi}(I:aG (Ăk) ak Y H s)(hx:Ķl)(hE:łD):(Ăk).xe ăa Ţ:=by
 have CD:=ģw;have En:=I.yA;ext hd;have Tg:∀env∈ď7,∀b,env.frame=ġ->ģL:=λenv he b hb=>ıD (env,he,hb);have Q8:ħp:=λb o q hb hm=>by
  ext mO
  ext lI
  .exact hb z
 refine yM Az rfl (λb o q=>ł7 _ q) (W.funFrames_hide CD Tg) hx λJS t fl up tr=>?_;have stays:∀b o,Ŵ->ĠM->Ġq=Ă:=λb o q hb=>fl.1 b o (ďS _ q hb);have xi:∀b u,ēx->ĠM:=λb u q hb=>by rw[En b hb]at q;ext M
 have slot:ĥt:=λb o q n hb=>by let⟨sl,e1⟩:=ăR b o q n hb ü9;let⟨_,o',vX,GX⟩:=CD.mem (show ģL by rw[efs];ext dG);ext oi;let⟨QR,e2⟩:=up b _ (hx.keeps _ _ e1) GX;exact ġq
 ext jd
 refine(e,cls,H,rfl,(I.os,øS,(λb o q n hb _=>stays b o (ı2) ć4,Ĭo,λb o q n _=>č8,ŀU,Ąm,Ąl,Ąn),ĝ9,(W.hideAll ù (ĕP),(t,fl,üd,ľp)),tr),hE)
 .by_cases hb:ēL
  ext ig
  .ext bK;exact(o',stays b o' e1 ć4)
 .refine ķF (λc v hc z=>stays c v z ?_) ĐW đm;ext fO
  .rw[z'];exact xi b u q
  .exact xi c _ z'
 .cases q:H b with
  |none=>exact absurd q hb
  |some u=>
   let⟨o,e1⟩:=(I.bE b u q).there;exact(o,ďS _ e1 (xi b u q))
 .ext bK;exact(o',ďS _ e1 ć4)
def uG:Passes üb (Ăk) E:=by
 rintro ak Y H s e s' I ⟨ea,cls,H',rfl,μ,hE⟩;ext kZ;ext hd;have Q8:ħp:=λb o q hb hm=>by
  ext mO
  ext lI
  .exact hb z
 have sub:∀b,ēL->ģL:=λb hb=>by rw[efs];ext dG
 ext jd
 refine CZ Az rfl fl μ.tr λJS fl2 up tr=>?_;have Oc:∀b o,ŃK b=Ă->(ČN)->Ġq=Ă:=λb o q⟨o',z⟩=>by have q':=fl.1 b o' z;ext gb;exact fl2.1 b o z
 have slot:ĥt:=λb o q n hb=>by let⟨sl,e1⟩:=ăR b o q n hb ēn;let⟨sl2,e2⟩:=μ.un.slot b _ e1 (č8) Ł3 ü9;let⟨_,o',vX,GX⟩:=fl.2.2.1.mem Ł3;rw[e2]at vX;cases vX;let⟨QR,e3⟩:=up b _ e2 GX;exact(QR,e3)
 refine(ea,cls,H',rfl,(μ.os.trans I.os,μ.bare,(λb o q n hb _=>?_,Ĭo,λb o q n _=>?_,ŀU,λb xs q=>μ.un.nS b xs (Ąm b xs q),λb o u q=>μ.un.mZ b o u (Ąl b o u q),λb ps q=>?_),ĝ9,(B,t,fl2,ct,ľp),tr),hE)
 .have e1:=ı2;have n1:=č8;have nf:=ŅP;exact Oc b o (μ.un.keep b o e1 n1 nf ü9) (cs b o e1 nf)
 .ext bK;exact μ.un.free b o' e1 (č8) ü9
 .by_cases hb:ēL
  ext ig
  .ext bK;let⟨o2,e2⟩:=cs b o' e1 ć4;exact(o2,fl2.1 b o2 e2)
 .let⟨m1,e1⟩:=Ąn b ps q;let⟨m2,e2⟩:=μ.un.oJ b _ e1;exact ĩo
 .refine(μ.bE b u q).oI (λc v hc z=>Oc c v z (ct c ?_)) ĐW đm;ext fO
  .rw[z',q];simp
  .rw[z'];simp
 .ext bK;exact cs b o' e1 ć4
def Nc.okX[4][93][44][152][20][327](S:ăT)(len:ĖL)
  (Jl:∀ [189] (A:Vj) [288] (s:Vh) (H:Hp) [110] (Q:VK) (E:XK),Īc->ĈK ->
   ∃t,kM ĕI ÿn t/\Ĩg):gN P w K mg base üb øe f fd ps sp:=by
 ext b;ext iy;ext a;exact abu lk AF S len λA outer s H vs Q E hr QW=>Jl d5 A outer s H vs Q E hr QW
open e
def aec(f:úM->ClassData->ĈR->Bool)(o:Option Obj)(q:Ļ6 (λ_=>Bool) o f (ğL)=true):∃dd cd sl,o=some (ĸ "type",dd,.cls cd,sl)/\f dd cd sl=true:=by
 rcases o with _|⟨c,dd,d,sl⟩
 .ext dr
 cases c
 case type t=>
  by_cases z:t = "type"
  .ext A;cases d
   case cls cd=>exact(dd,cd,sl,rfl,q)
   ext bi
  .delta Ļ6 at q
   replace q:dite (t = "type") _ (ğL)=true:=q;rw[dif_neg z]at q;ext dr
 ext bi
def aed(f:Vi->Vc->Vd->Vd->Vd->Vd->String->Vd->Bool)(a:Vc)(b:List (Vd))(q:W.excIn.match_1 (λ_ _=>Bool) a b f (λ_ _=>false)=true):∃C bm k0 k1 k2 k3 n k5,a=ýY::bm/\b=[k0,k1,k2,k3,some (Ő n),k5]/\f C bm k0 k1 k2 k3 n k5=true:=by
 rcases a with _|⟨m,bm⟩
 .ext dr
 cases m
 case ref C=>
  rcases b with _|⟨k0,_|⟨k1,_|⟨k2,_|⟨k3,_|⟨_|k4,r⟩⟩⟩⟩⟩
  case cons.cons.cons.cons.cons.some=>
   cases k4
   case builtin n=>
    rcases r with _|⟨k5,_|k6⟩
    case cons.nil=>exact(C,bm,k0,k1,k2,k3,n,k5,rfl,rfl,q)
    ext bi
   ext bi
  ext bi
 ext bi
def G6[131][4]{bmB:Vc}(X:K.In h)(hb:ĢD)(q:ģG K C bmB newId=true):OwnCls x C bmB newId mg h:=by ext b;let⟨dd,⟨nm,bs,mro,ns,qn,hd,sn,sub,ab,col,del⟩,⟨sl⟩,ho,q⟩:=aec _ _ q;let⟨C',bm,k0,k1,k2,k3,n,k5,e1,e2,q⟩:=aed _ _ _ q;subst e1 e2;simp only[úx,beq_iff_eq,ČV]at q;let⟨⟨⟨⟨⟨rfl,rfl⟩,rfl⟩,ht⟩,bE⟩,hni⟩:=q;ext a;exact(hb,bm,ns,nm,qn,bs,hd,sn,sub,ab,col,dd,k0,k1,k2,k3,k5,_,X _ _ ho,.of_isNs (W.isNs_of_in X bE),W.nsMap_none_of_in X bE hni,W.tail_of_in X ht)
def Th(E:XK)(C:Vi)(t:TA):TS:=(λ_ Y H=>t Y H λvs H1=>Ă'/\E Ĝ none H1)
def Raises[104]:Prop:=(∀(ak:U')(Y:St)[134](h':Heap)(e:Vi)(cls:Vg)(vs:Vc),ĥ->Ķl->łD->X.xe ăa Ţ)
def JT[4]{B C7:String}{bm:Vc}[379]{t:TA}[344][42][400][45](ha:PA X ĝw t)(he:autoParam (starEach ĝw Ā=ĳd::ĸP) Č)(g!:autoParam (ĨX=false) Č)[38]:
  PS X (.Raise (some (Ű ĝA ĝw [] bw)) none pos) (Th E C t):=by
 ext X;ext b;let⟨tl,NS,nm,q,bs,hdct,sn,sub,ab,col,dd,k0,k1,k2,k3,k5,mN,hC,hN,hni,T⟩:=(G6 I.mod.QP hm hq).obj;ext a;refine wpAny_Raise_call_subT (nm:=nm) (q:=q) (N:=NS) (bs:=bs) (hdct:=hdct) (sn:=sn) (sub:=sub) (ab:=ab) (col:=col) (dd:=dd) (k0:=k0) (k1:=k1) (k2:=k2) (k3:=k3) (k5:=k5)
  FB (T.hasType FB.hasBase) úE (by rw[he];show(false || ĨX)=false;rw[g!];rfl) hni (mL I hg hm Ēn hd)
 have hA:=ha bw ak s Y H _ I h;rw[he]at hA⊢;exact čK (de hA λus s2⟨vs,H2,I2,r2,z,q2⟩=>(rfl,by rw[<-đ6];ext o,I2.bk _ _ hC,hN.keeps I2.bk,T.keeps I2.bk,λh' e hm2=>hX ak Y H2 s2 h' e _ _ I2 hm2 q2))
structure DefX(X:Cx):Prop where
 fn:ćN
 Nm:øt=Ģ6
 fr:ĳT
structure AV[78](Y:St)[134][370]:Prop where
 inv:ĥ
 fl:∃(B:Heap)(t:Vi),İt/\(īd)/\(ĩ2)/\(ĩk)/\(ĭp)
 tr:uq ù ea
section
variable{s s':Vh}
def aG.Od[0]{b:Vi}(h1:ÿy)(h2:ĈY):b ∉ ýI:=λz=>łf h1 h2
def aG.slots{B h':Heap}[0](sB:B.StaysIn ù)(c1:īd)(c2:ĩ2)(c3:ĩk)(c4:ĭp)(k1:B.StaysIn h')(k2:ÿ_):Ď_:=by
 have Oc:∀b o,Ŵ->(ČN)->ĂM:=λb o q⟨o',z⟩=>by have q':=sB b o' z;ext gb;exact k1 b o z
 ext ee;have slot:∀b o,ćg->ĝO->Ē2->ĒB->Ėw:=λb o q n hb hx=>by let⟨sl,e1⟩:=ăR b o q n hb hx;let⟨_,o',vX,GX⟩:=I.m8.mem hb;ext oi;let⟨QR,e2⟩:=k2 b _ e1 GX;exact ġq
 refine(I.ok,I.os,øS,(λb o q n hb hx=>?_,slot,Ām,ľq,Ąm,Ąl,Ąn),?_,þ4,øT,I.ja,øL,ĝ9,ý_)
 .exact Oc b o (ćn b o q n hb hx) Īn
 .by_cases hb:Ē2
  .let⟨sl,e1⟩:=slot b o q Ěp hb hx;exact ģb
  .ext ev;exact(o',Oc b o' e1 Īn)
 .ext b;ext dj;ext a;refine(m,k2.ns hn,ĳ_);ext b;ext kg;ext a;refine(u,r,?_);rcases l with l|⟨k,c,e,o,ho,hd⟩
  .exact .inl l
  .exact .inr (k,c,e,o,ĳO,hd)
 .ext b;ext cN;ext a;exact(v,o,ĳO,hd)
 .ext b;ext bM;ext a;exact(Oc p.1 p.2 e (c3 p hp),n,ne,nf,d)
 .refine ķF (λc v hc z=>Oc c v z (c1 c ?_)) ĐW đm;ext fO
  .rw[z',q];simp
  .rw[z'];simp
def AV.slots(J:ĘH):∃(B:Heap)(t:Vi),İt/\H ea=none/\∀h',þn B øt ea cls ÿd h'->ÿ_->uq h' ea->AV X ak Y H Ţ ea cls:=by
 ext b;let⟨B,t,fl,c1,c2,c3,c4⟩:=J.fl;ext a;refine(B,t,fl,?_,λh' f2 up tr=>(J.inv.slots fl.1 c1 c2 c3 c4 f2.1 up,(B,t,f2,c1,c2,c3,c4),tr));cases q:H ea with
 |none=>rfl
 |some u=>
  let⟨o,e⟩:=c1 ea (ĎK);rw[fl.2.1]at e;ext g
def aG.flew[0](IX:ćN)(μ:Fly Đ X.w øt H H' s s' ea cls):AV X ak Y H' s' ea cls:=by
 ext kZ;have cl:∀x c,úm->c ∉ ýI:=λx c e=>I.Od ĎU λhb=>by ext eK;exact absurd (ľ Đf (ģu x c (IX x) e)) úX
 refine(I.xj μ.os μ.un μ.bE μ.bare Ĵ',(B,t,fl,ct,λb o q hb hx=>?_,øL,þ4),μ.tr)
 .ext ev;exact cs b o' e1 hb
 .ext bM;exact cs p.1 p.2 e (I.Od ne nf)
 .ext lc;exact cs c o ho (cl x c e)
open e
abbrev EK:=ŅU
abbrev EH:=Vg->Vi->øZ
abbrev TEE:=St->Hp->VK->EH->Prop
abbrev Ti:=Ends->EK->ùa
def XP[78](EX:EK)(e:Vg)[83]:Prop:=(∃ea cls cx H',e=þ1/\AV X ak cx H' s' ea cls/\EX cls ea cx H')
abbrev atS(Y:St)(EX:EH):EK:=λcls ea cx H'=>cx=Y/\łE
def Ng[223](t:TEE):Prop:=(
 ∀[16](Q:VK)(EX:EH),ĥ->t Y H Q EX->wpAny Ć X.A Ĕ4 ø3 ıp s)
def Oe(X:Cx)[241](t:Ti):Prop:=(
 ∀[16][108](EX:EK),ĥ->ğB->wpAny Ć X.A Ļh ĈC ď1 s)
def G7(X:Cx)(st:úF)(t:Ti):Prop:=(
 ∀[16][108](EX:EK),ĥ->ğB->wpAny Ć X.A Ĺv ĈC ď1 s)
def XP.at{EX:EK}{e:Vg}{s':Vh}(h:XP X ak (atS Y ėj) e s'):XP X ak EX e s':=by let⟨ea,cls,cx,H',rfl,J,rfl,q⟩:=h;exact(ea,cls,_,H',rfl,J,q)
def Tj(sp:Sp)(t:TA):TEE:=(λY H Q EX=>t Y H λvs H1=>sp vs H1 Q λcls _ H'=>∀ea,łE)
def JU[20][44][152][4][30]{t:TA}(F:gN Đ X.w X.K X.mg ùb ď2 k f fd ps sp)[127][45](hm:ýM=ĉK)(hk:ĽI X.K ú7=true)(hb:ČO)(IX:ćN)(ha:∀W,PA (X.ug W) ŵ t)[48]:
  Ng X ÿ6 (Tj sp t):=by
 intro ak s Y H Q EX I h;ext er;refine PySem.W.callWith_K ĐH hk (de (ha ıp pos ak s Y H _ (I.ug _) h) λus s1 ķt=>(I1.yC.nT,?_)) he g!;have I2:=I1.yC;have hl:(us++[]).length=þo:=by rw[ń,<-úb];exact ċp _ _ _ _ q
 have hb2:=hb s1 us I2.nT hl;rw[ń]at hb2;refine wpAny_call (codeAny_mono (F.run X.A øt s1 H1 ÿV us vs Q _ hr I2.Sy hb2 r q) ě');cases r with
 |error e=>
  let⟨ea,cls,H',rfl,μ,hE⟩:=hq;exact(ea,cls,Y,H',rfl,I2.flew IX μ,rfl,hE ea)
 |ok fl=>
  cases fl with
  |ret u=>exact I2.after hq
  |next=>ext bu
  |brk=>ext bu
  |cont=>ext bu
def JV{te:TEE}(he:Ng X e te)[260]:Oe X ďA (λD EX Y H=>te Y H (ĸ5) ėj):=by ext fB;exact wpAny_Expr_any (wpAny_mono (he ak s Y H _ _ I h) (İy) λ_ _ q=>q.at) I.quiet hs
def JW[93]{t:Ti}(h1:Oe X st t):G7 X [st] t:=by
 ext fB;refine wpAny_execs_cons (de (h1 ak s Y H D EX I h) Đo);cases f with
 |next=>ext fz
 |ret v=>ext m
 |brk=>ext m
 |cont=>ext m
abbrev Of:=Ends->EK->ŅU
def PH(X:Cx)(hs:ĆY)(th:Of):Prop:=(
 ∀[16][108](EX:EK)[370],ĘH->th D EX cls ea Y H->wpAny Ć X.A (handleBy Ċw Ā hs) ĈC ď1 s)
def Tn:Of:=(λ_ _ _ _ _ _=>False)
def To:PH X [] Tn:=λ_ _ _ _ _ _ _ _ _ h=>ĊO
def Og[174][407]:Oe X Ėy (λD EX Y H=>tb D (λcls ea cx H'=>th D EX cls ea cx H') Y H):=by
 ext fB;refine wpAny_Try_except (wpAny_mono (hb ak s Y H D _ I h) (Đo) λe s1 q=>?_)
 .cases f with
  |next=>ext fz
  |ret v=>ext m
  |brk=>ext m
  |cont=>ext m
 .ext b;let⟨ea,cls,cx,H',rfl,J,hE⟩:=q;ext kB;ext a;have Az:X.A.frames=some (Ģ6):=by rw[<-dx.Nm];exact J.inv.ok.frames
  refine GY Az dx.fr (by rw[<-dx.Nm];exact fl) J.tr λh4 held up4 tr4=>?_;refine SV held tr4 λh5 fl5 up5 tr5=>?_;exact hh ak _ cx H' D EX ea cls (go h5 (by rw[dx.Nm];exact fl5) (up4.trans up5) tr5) hE
def Tp[174][407]:
  PS X Ėy (λD Y H=>tb D (λcls ea cx H'=>th D ĳw cls ea cx H') Y H):=by
 ext X;exact wpAny_mono (Og dx hb hh ak s Y H D ĳw I h) (þ') λ_ _⟨_,_,_,_,_,_,z⟩=>z.elim
def C8(X:Cx)(ea:Vi)(oe:Obj):Cx:=({X with A:=X.A.mark Ł2,calm:=false,pn:=(ea,oe)::X.pn,xe:=Ĉz})
def AV.C8{s:Vh}(J:ĘH):∃oe,ěw/\ûG=cls/\N1 oe/\Ļ':=by
 ext b;let⟨B,t,fl,hn,_⟩:=J.slots;let⟨oe,vs,he,hc,hd,_⟩:=fl.first;have I:=J.inv;have Q8:∀b∈ýI,ea≠b:=λb hb z=>by let⟨_,o,ho,GX⟩:=ŅJ hb;rw[<-z,he]at ho;ext fE
 have IW:ea≠øD:=λz=>by let⟨m,⟨o,es,ep,ho,hdd,_⟩,_⟩:=úV;rw[<-z,he]at ho;cases ho;rw[hd]at hdd;cases hdd
 have nfs:ea ∉ X.fs:=λhb=>by let⟨_,o,ho,GX⟩:=I.m8.mem hb;rw[he]at ho;ext fE
 ext a;refine(oe,he,hc,J.tr.ctx he,((ĒS,üq,Ġn,ġ3,ď9,ġ4,I.ok.has,ģu,λz=>(Ćj),ĐG,I.ok.Nm,I.ok.exf,ģv,ģt,Ēr,ģr,I.ok.m8,ģs),I.os,øS,ĊD,úV,ùG,øT,I.ja,øL,I.bE,ý_));rcases ŏ (hp)with z|z
 .rw[z];exact(he,hn,IW,nfs,λv q=>by rw[hd]at q;ext M)
 .exact üM p z
def aG.aee{s:Vh}(ok:X.Ok)(I:Ļ'):ĥ:=
 (ok,I.os,øS,ĊD,úV,ùG,øT,I.ja,λp hp=>üM p (š _ hp),I.bE,ý_)
def G8[35][18]{K:Va}[1]{Q:ďQ}(KX:ÿq)(he:ěw)(h1:đB K ûG Ĝ=ġ)(h2:Ęr)(q:Q b s):
  wpAny M A (excMatches Ċw Ĝ) Q E s:=by
 let⟨l1,l2,l3⟩:=W.kit_cls KX h1;have l4:=W.looks_subIn (M:=M) KX h2;ext ft;have lt:ĉ3 M hp (isInstance Ĝ ąI) false:=l1.andThen (.of_pure tc_notTuple);have lx:ĉ3 M hp (isExcClass Ĝ) true:=λA' Q' E' s' k z=>by refine wpAny_bind (l2 A' _ E' s' k ?_);exact l4 A' Q' E' s' k z
 have ly:ĉ3 M hp ľI ûG:=ĥK
 refine wpAny_bind (lt.here ?_);simp only[ĂO,if_false,pure_bind,ĻZ,ĽE,bind_assoc];refine wpAny_bind (lx.here ?_);simp only[ć',ĂO,if_false,pure_bind];ext kJ;refine wpAny_bind (l3.here ?_);cases b with
 |true=>ext nX
 |false=>ext nX
def rK[18]{K:Va}{c:Vg}(KX:ÿq)(he:ěw)(e:ù_ K ûG c=Ğ)(h:Q āT s):
  wpAny û A (call Ă5 [þ1,c]) Q E s:=by
 have ly:ĉ3 û ù ľI ûG:=ĥK
 refine PyProof.Rows.call_isinstance_of ?_ ü9;unfold ù_ at e;ext kJ;by_cases q:(ûG==c)=true
 .rw[üx]
  first
   |exact wpAny_bind (wpAny_rule h)
   |exact wpAny_bind (wpAny_rule (ċ'))
   |ext bE
 .rw[ýR]at e;rw[ýR];ext b;let⟨SJ,his,abP⟩:=W.kit_cls KX e;have LI:ĉ3 û ù (isInstance Ċw c) true:=ly.andThen abP;ext a;refine wpAny_bind (SJ.here ?_)
  k_delta "plainIsInstance"
  refine wpAny_bind (wpAny_bind (his.here ?_));refine wpAny_bind (LI.here ?_)
  first
   |exact ĎR
   |(ext ok;first|exact ĎR|ext bE|exact wpAny_bind (ĎR))
def yR:aW X Ă5 (λxs H Q=>∃ea oe c,(xs=[þ1,Ĕo]/\ù_ X.K ûG (Ĕo)=Ğ\/∃n,xs=[þ1,.ty n]/\ù_ X.K ûG ēr=Ğ)/\ĺ2/\Q øz H):=by
 ext ap;let⟨ea,oe,c,hx,hp,q⟩:=h;ext jC;rcases hx with⟨rfl,e⟩|⟨n,rfl,e⟩
 ext jh
 ext jh
def aG.Oh{s:Vh}{n:Str}{u:Vd}{m:U?}[0][126](hi:Ĕk)(hx:ĂV n=ùZ)(hn:ĚH)(hl:∀[194][21](v:V),ģH=ī->Y[j]?=ĀP->ĩW)(RU:h'.Ns øD (λx=>if x=n then u else m x))(sb:Āu øD ù h'):aG X ak (Y.set i none) H Ţ:=by
 have KK:i<Ē0:=ĭE
 have Nd:∀b o,ÿy->ēe:=ĖT;ext ee;refine(I.ok,I.os,øS,(λb o q nn hb hx=>Nd b o Ēx (ćn b o q nn hb hx),λb o q nn hb hx=>?_,Ām,ľq,Ąm,Ąl,Ąn),(_,RU,λj x v e1 e2 e3=>?_),þ4,øT,I.ja,øL,λb w q=>?_,by rw[Ŕ];exact ý_)
 .let⟨sl,e1⟩:=ăR b o q nn hb hx;exact(sl,Nd b _ Ēx e1)
 .ext ev;exact(o',Nd b o' Ēx e1)
 .ext gp
  .subst hj;rw[ő KK]at e2;cases e2
  .rw[ŃY]at e2;let⟨u',r,l⟩:=hl j x v e1 e2 e3;have nx:x≠n:=λz=>hj (ue hN e1 (z▸hi));refine(u',r,?_);rcases l with⟨k,e⟩|⟨k,c,e,o,ho,hd⟩
   .exact .inl (k,by simp[nx,e])
   .exact .inr (k,c,e,o,Ŀ2,hd)
 .ext cN;exact(v,o,Ŀ2,hd)
 .let⟨e,z,ne,nf,d⟩:=üM p hp;exact(Nd p.1 p.2 ne e,z,ne,nf,d)
 .refine(I.bE b w q).oI (λc v hc z=>Nd c v ?_ z) ĐW đm;intro z';rcases hc with r|r
  .rw[<-r,z',øT]at q;ext M
  .rw[z',øT]at r;cases r
def aef[135][5](ts:ŅV)(tr:Of):Of:=(λD EX cls ea Y H=>∃b,đB K cls Ĝ=ġ/\if øR then ĤJ else tr D EX cls ea Y H)
def Tq{x n:Str}{rest:ĆY}{ts:ŅV}{tr:Of}[304][322](hs:∀ea oe,N1 oe->kM Ćq Ġb (ts ea oe))(hr:PH X rest tr)[38]:PH X ĕp (aef X.K C i ts tr):=by
 intro ak s Y H D EX ea cls J h;ext b;let⟨b,hb,h⟩:=h;let⟨oe,he,hc,_,I⟩:=J.C8;ext a;refine wpAny_handleBy_cons (codeAny_handlers_test (mL I (hg) (hm) ?_ hd)) ü9;refine G8 I.nT he (by rw[hc];exact hb) hB ?_;cases b with
 |false=>exact hr ak s Y H D EX ea cls J ĕh
 |true=>
  ext b;ext kB;have h':ĤJ:=ĆG
  ext a;refine codeAny_handlers_suite_as (yN fl J.tr λh6 fl6 up6 tr6=>?_);ext b;have J6:=go h6 fl6 up6 tr6;let⟨oe6,he6,hc6,cx6,I6⟩:=J6.C8;ext a;refine uf (X:=ĽO) (v:=þ1) I6 hN hi Ĝd rfl (λs7 I7=>?_) ľV;refine wpAny_mono (hs ea oe6 cx6 ak s7 _ H _ I7 (h' oe6 hc6)) (λf s8 q=>?_) λ_ _ z=>z.elim
  -- II name is let go
  have letGo:∀{Cl:St}{H8:Hp}{R:øE},aG (ĽO) ak Cl H8 s8->(∀s9,aG X ak (Cl.set i none) H8 s9->R s9) ->
    wpAny Ć X.A (do bindName Ā n ė;unbindBehindTheSuite Ā n pos) (λ_ s9=>R s9) ď1 s8:=λ{Cl H8 R}I8 k=>by
   have I9:=I8.aee J.inv.ok;refine wpAny_bind (wpAny_bindName (p8 I9 hN hi Ĝd (v:=.cq) rfl (λs9 I10 ŀ8=>?_) ľV));let⟨m,ns,hlk⟩:=I10.loc;have KK:i<Cl.length:=by rw[I9.len];exact łs
   let⟨u,ru,lk⟩:=hlk i n .cq hi (ő KK) Ĝd;have hmn:m n=Ę:=by
    rcases lk with⟨_,e⟩|⟨k',_⟩
    .exact e
    .exfalso;rcases k' with z|z
     .have z':Ăx n=ýf:=z;ext oj
     .have z':Ăx n=þJ:=z;ext oj
   refine wpAny_onRaise (wpAny_unbindName_local hl ns hmn (by rw[I10.ok.kind];rfl) λh11 u' ns' sb'=>?_);have I11:=I10.Oh hN hi hl ns hlk ns' sb';rw[ĜE]at I11;exact k _ I11
  cases f with
  |next=>
   ext b;ext fC;ext a;ext ey
  |brk=>
   ext b;ext fC;ext a;ext ey
  |cont=>
   ext b;ext fC;ext a;ext ey
  |ret v=>
   ext b;let⟨x8,Cl,H8,I8,r8,q8⟩:=q;ext a;exact letGo I8 λs9 I9=>(x8,_,H8,I9,r8,q8)
def Itd[140][7]:It:=((λi _=>i<n,λi H x H'=>H'=H/\x=Ņq,ņ2))
theorem G_{K:Va}(it:Vi)[140][7]:Turn P w K tg Łw [it] it (λi h=>IsRangeIter h it (lo+Ąh*(-1)) Ņh (-1)) where
 mem:=Ń
 obj:=λi h st b hb=>by
  ext bX
  ext l;exact(_,st,λv z=>by
   ext nc)
 keep:=ĭP
 item:=by ext N;ext T;ext ao;have W:=ŅX (prog:=X.prog) (w:=X.w) úE it lo (-1) n;ext hb;refine(_,rfl,Er ay rfl rfl ø (Ņq,H,I1,(t,?_),ÿe,ay,Ĉl));rw[show lo+ùx*(-1)=lo-ùx by ext c]
 done:=by ext N;ext T;ext ao;exact wpAny_pyNext_range_end úE st ĭT λh' eb=>(rfl,ĉz ĭ0 f0 f1 f3 f4 f5)
 self:=Ĩi
def Oi{s:Vh}[423][0][424](q:R (Itd lo Ě5) H):wpAny Ć X.A ļ3 ęe E Įm:=by
 refine wpAny_pyIter_range Ķv (W.small_down h1 h2 h3 h4) ?_;have I1:aG X ak Y H Įm:=ÿx Āl;refine(ĞV,[ĞV],_,_,H,rfl,
  Ĥm,G_ _ lo Ě5,?_,üd,q)
 .have e1:lo+ćB*(-1)=lo:=Ń
  have e2:((Ě5:Nat):Int)-ćB=İP lo hi (-1):=by rw[W.rangeSize_downNat];ext c
  rw[e1,e2];ext ck
 .have e:b=ĞV:=Ćl
  ext cC
def abQ(ta:TA):TI:=(λY H R=>ta Y H λvs H1=>∃i j:Int,vs=[ĝ,ø7,.int (-1)]/\(ĭO)/\R (Itd i Ŀb) H1)
def Oj[222]{ta:TA}[30][268](ha:PA X ĉD ta)[386]:
  PI X tg ĵJ (abQ ta):=by
 ext bn;refine Call_ (kP I hg hm boot_range ĨN);let⟨i,j,e,⟨q1,q2,q3,q4⟩,q⟩:=q1;ext l;cases r1 with
 |cons r rr=>
  cases rr with
  |cons r' rr=>
   cases rr with
   |cons r'' rr=>
    cases rr;ext aq;let⟨t',rfl⟩:=r';let⟨t'',rfl⟩:=r'';refine call_range_3 ø (Oi I1 q1 q2 q3 q4 q) (.inl (İb Ų))
def Ite[294]:It:=(
 (ıh,
  λi H v H'=>∃p x,v=úI/\ø9/\H'=upd H p Ĺf/\ľB,
  İv))
theorem G!{K:Va}[143]{e:Vi}(a:Vi)(ne:e≠it):
  Turn P w K ûX ńk āD e (λi h=>(∃old,IsEnum h e it ùx old)/\ĜT it a i) where
 mem:=Ń
 obj:=λi h ńg c hc=>by
  have bW:c=e\/c=it:=Ă_
  rcases bW with rfl|rfl
  .exact ŁA
  .ext b;let⟨o,e',c,d⟩:=hi;ext a;exact(o,e',ħy)
 keep:=λi h h' ńg k=>((old,k e Ĉ _ he),hi.at λo e'=>k it Ĉ o e')
 item:=by
  ext N;ext b;ext T;ext eU;let⟨xs,x,sx,ex⟩:=hg;ext ly;ext kR;have fz:=hf e Ĉ;ext a;refine wpAny_pyNext_enum_item he hi āo ıv ne λh' a1 a2 a3 a4 a5=>ĈP
  ext gn;have Td:∀c∈āD,ĒQ:=ŀV;have kp:∀c o,c ∉ āD->ĖE:=λc o bW q=>a5 c o ěd ěd q;have xi:∀c o,H c=Ă->c ∉ āD:=λc o q bW=>ĮQ
  have bE:jF Đ X.w ĆD h':=λc o q=>by
   ext gd
   .subst Q6;ext gh;exact(ėq,[.int i üu,ux],Ċ ę ĻI,_,a3,rfl,_,rfl)
   .rw[aO Q6]at q;refine(I.bE c o q).oI ĭ2 Ľs ŀY
    ext dn
    .rw[q'];exact xi c o q
    ext dv
  have un:Un ÿR āD H ĆD ù h':=
   (Ķr,ĵs,Ĩl,Ķq,
    ŀX,ľr,ĨV)
  have I1:aG X ak Y ĆD {s with heap:=h',toks:=Ăb}:=ĥz
  have fpT:∀c∈āD,ēM:=λc bW q=>by
   have oQ:c<ü:=by
    have JR:c=e\/c=it:=ęK
    rcases JR with r|r
    .rw[r];exact ŉ he
    .let⟨o,e',_⟩:=hi;rw[r];exact ŉ e'
   exact ĬD
  have Q7:∀c∈āD,ĆD c=none:=Ĩk
  refine wpAny_letOwnedTupleGo_enum a1 ľn;ext b;ext eM;have I2:aG X ak Y ĆD {s with heap:=JS,toks:=Ăb}:=Ġo ĪL (Q7 e Ĉ) f1 f3 f4 f5;ext a;refine(ùr,_,I2,rfl,(_,x,rfl,hT,rfl,λzs hs=>by rw[I.oK hs sx];exact ex),((_,Tr),a2.at λo q=>ĉj _ o ne.symm q),Q7)
 done:=by ext N;ext b;ext T;ext eU;let⟨xs,sx,hl⟩:=hg;ext ly;have l1:=üe;ext ao;ext a;exact wpAny_pyNext_enum_end úE he hi āo ćy Ħe
 self:=λ_ _ _ _ _ st h=>by ext b;ext eU;ext a;exact wpAny_pyIter_enum he h
section
variable{tp p:Pos}
def abR(K:Va)(ta:TA):TI:=(λY H R=>ta Y H λvs H1=>∃a xs,vs=ùd/\kN K H1 a xs/\R ńk H1)
def Ol[254]{ta:TA}[420](hv:bootBuiltins "enumerate" = some (ĸ "enumerate"))[493][262]:
  PI X ûX ĩO (abR X.K ta):=by
 ext bn;refine Call_ (kP I hg hm hv ĶN);ext b;let⟨b,xs,e,hq,q⟩:=q1;ext l;let⟨u,rfl,ru⟩:=ba.one r1;cases ru;let⟨aE,rv,pl,hz⟩:=I1.list hq;ext a;refine call_enumerate_list āe λh' he hi hsz kp=>?_;ext iA;have ne:ą' ≠Œ:=ø
 have T:=G! (P:=X.prog) (w:=X.w) (K:=X.K) (elts:=elts) (kt:=kt) (tp:=tp) b ne;refine T.self X.A 0 ķo _ _ ľP ?_;refine(ą',[ą',Œ],_,_,H1,rfl,I2,T,ľP,Ĉ6,q);have hle:Œ<=c:=by
  have bW:c=ą'\/c=Œ:=Ă_
  rcases bW with r|r<;>(ext mD)
 exact Ķa
open e
def G?:aW X Ĝr (λxs H Q=>∃b,xs=[Ś]/\Q (ġT) H):=by rintro ak s Y H xs ws Q I r ⟨b,rfl,q⟩;ext eA;exact call_int_bool (ġT,H,ù2,ę,q)
def Ha[26]:aW X ăM (λxs H Q=>∃(a:Vi)(ns:Vb),ÿO/\Ľ5/\Q (čZ) H):=by
 ext bg;ext b;ext lx;ext eA;ext eY;have hi:=ě4;let⟨xs,hx⟩:=hi.allInts.items;have hl':ăB a (ďK):=hx▸đ5;ext a;refine sum_intListG hh hl' ĸ8;have e1:ns=ŀK ď:=by rw[<-nums_intItems,<-hx];exact(hi.numsOf).symm
 have e2:preSum ĝu úe=ĊV:=by rw[preSum_eq,ÿ' Ĉ,e1]
 rw[e2];exact ĵH
structure sD where
 qual:Str
 params:Arguments
 body:Expr
 scope:Scope
 ps:Vf
 x:Str
abbrev Fz[79](o:Obj):Prop:=H a=some (.jl o (.own 0))
structure Clo(L:sD)(H:Hp)(f c c':Vi)(v:V):Prop where
 fn:∃pm ctv,Fz H f (W.kla_obj "<lambda>" L.qual L.params L.body L.scope [%[L.x|c]] pm c' ctv)
 cd:∃oc vs t,Fz H c' oc/\ģZ=Ċq/\ĔP=some (.str L.qual t)
 ce:∃oc u,Fz H c oc/\ģZ=ā0 āU/\øn
def back[293](c:Vi):Hp:=(λb=>if b=c then H b else H' b)
def Tab(H:Hp)(T:Vi)(line col:Nat)[373]:Prop:=(H T=some (.M9 #[]) \/
 ∃c' oc vs t,H T=some (.M9 #[rawInt line,rawInt col,.ref c'])/\Fz H c' oc/\ģZ=Ċq/\ĔP=some (.str qual t))
def Clo.mono{L:sD}{c:Vi}{v:V}(C:Clo L H f c c' v)(k:Čh):Clo L H' f c c' v:=by ext b;let⟨⟨pm,ctv,h1⟩,⟨oc,vs,t,h2,h3⟩,⟨o2,u,h4,h5⟩⟩:=C;ext a;exact((pm,ctv,k _ _ _ h1),(oc,vs,t,k _ _ _ h2,h3),(o2,u,k _ _ _ h4,h5))
open e _A
variable [20]
variable {base:Heap}
variable {ps:ĉC}
variable [292]
variable [67]
variable {EX:_A.EK}
namespace _D
open PySem.Spec _A
open PyProof.Rows hiding St
inductive au where
 |cq|bl [10]|int [28]|str [21]|tup [184]|loc [7]|exc [82]|fn (L:sD) (u:au)|mt [184]
inductive aH where
 |lst [184]|Tt [184]|mod [184]|dK (aA:ùS)|dT (aA:Ěv)|tab [21] (line col:Nat) [373]|ins [82] (fs:ĂJ)|fd (aA:ùS)
abbrev ai:=List aH
abbrev Env:=List (ć)
inductive bR(α:Type) where
 |ok (a:α) [2]|err [82] [2]|bad
inductive b! where
 |nx [14] [2]|rt (v:au) [2]|bk [14] [2]|ct [14] [2]|er [82] [14] [2]|bad
@[reducible] def bR.bind(r:ûF)(k:Ĉk):bR β:=match r with
 |ĉy=>āy
 |Ąi=>Ąi
 |.bad=>.bad
structure Wo where
 K:Va
 mg:Str->Vd
 pn:U'
abbrev wo(X:Cx):Wo:=(X.K,X.mg,X.pn)
mutual
def Rl(K:Va)[50]:au->V->Prop
 |.cq,v=>v=.cq
 |Ś,v=>v=Ś
 |ĝ,v=>v=ĝ
 |ük,v=>v=ük
 |Ŷ,v=>ĩ3
 |ąj,v=>ĖU
 |Ġ,v=>ŀ7
 |Ĕm,_=>False
 |ĉW,_=>False
def aZ(K:Va)[50]:ý->ķ->Prop
 |[],vs=>vs=[]
 |ı,vs=>īe
end
structure aD[50](bi:Ve)(H':Hp):Prop where
 pre:O <+: bi
 tup:Či
 jl:Čh
def aD.refl[50]:aD O H O H:=(ęl,đk,Ń5)
def aD.trans{bv dl:Ve}{H1 H2:Hp}(a:Đl)(b:ĽS):Ńa:=
 (a.pre.trans b.pre,λ_ _ h=>b.tup _ _ (a.tup _ _ h),λ_ _ _ h=>b.jl _ _ _ (a.jl _ _ _ h))
def aD.same[280]:ĝP:=(ęl,ĺV,ķr)
def aD.snoc(p:Vi)[280]:aD O H ûx H':=(List.prefix_append O [p],ĺV,ķr)
def aD.at_[47][3]{a:Vi}(h:þZ):bi[n]?=Ō:=by
 let⟨t,rfl⟩:=e.pre;have hl:n<ĒT:=by
  rcases øI n ĒT with q|q
  .ext m
  .ext bc
 rw[øW hl,h]
def aD.sqT{K:Va}[47]{a:Vi}[144](h:ýB):mM K H' a xs:=by
 rcases h with(h|⟨o,h⟩)|h
 .exact .inl (.inl (e.tup _ _ h))
 .exact .inl (.inr (o,e.jl _ _ _ h))
 .exact .inr h
mutual
theorem Rl.mono{K:Va}[47]:∀(u:au)(v:V),úv->Rl K bi H' u v
 |.cq,_,h=>h
 |úU,_,h=>h
 |üE,_,h=>h
 |ÿM,_,h=>h
 |Ŷ,v,h=>by ext b;ext lO;ext a;exact(a,vs,h1,e.tup _ _ h2,ľl)
 |ąj,v,h=>by ext b;ext lO;ext a;exact(a,vs,h1,e.sqT h2,ľl)
 |Ġ,v,h=>by let⟨a,h1,h2⟩:=h;exact(a,h1,e.at_ h2)
 |.exc c,v,h=>h
 |ĉW,_,h=>h
theorem aZ.mono{K:Va}[47]:∀[37][110],ū->Ěg
 |[],_,h=>h
 |ı,vs,h=>by let⟨v,r,h1,h2,h3⟩:=h;exact(v,r,h1,üy e u v h2,øw e us r h3)
end
section
variable{K:Va}
def aZ.nil:aZ K O H [] []:=by unfold aZ;rfl
def aZ.cons{u:au}[6]{v:V}[17](h:úv)(hs:ū):aZ K O H ċi (ċS):=by unfold aZ;exact(v,vs,rfl,h,hs)
def aZ.bA{u:au}[6][17](h:aZ K O H ċi vs):īe:=İh
def aZ.dN[17](h:aZ K O H [] vs):vs=[]:=İh
theorem aZ.length:∀[6][17],ū->ĉ=Ş
 |[],vs,h=>by rw[h.dN];rfl
 |ı,vs,h=>by ext lq;rw[ă,ă,h3.length]
theorem aZ.get:∀[6][17][64]{u:au},ū->Ąb->∃v,đf/\úv
 |[],_,_,_,_,e=>üh
 |ċT,vs,0,u,h,e=>by ext b;let⟨v,r,rfl,h2,_⟩:=h.bA;ext g;ext a;exact Ł'
 |ċT,vs,i+1,u,h,e=>by ext b;ext lq;ext a;exact aZ.get (i:=i) h3 e
theorem aZ.append:∀[228]{vs xs:ķ},ū->aZ K O H ws xs->aZ K O H Ĉq (vs++xs)
 |[],_,vs,_,h,k=>by rw[h.dN];exact k
 |ı,ws,vs,xs,h,k=>by ext bP;exact Ź h2 (h3.append k)
theorem aZ.drop:∀[7][6][17],ū->aZ K O H (āw n) (vs.drop n)
 |0,_,_,h=>h
 |_+1,[],vs,h=>ĲO
 |n+1,ı,vs,h=>by ext b;ext bP;ext a;exact aZ.drop n h3
theorem aZ.take:∀[7][6][17],ū->aZ K O H Ŀn (vs.take n)
 |0,_,_,_=>ùH
 |_+1,[],vs,h=>ĲO
 |n+1,ı,vs,h=>by ext b;ext bP;ext a;exact Ź h2 (aZ.take n h3)
def aZ.one[51](h:úv):aZ K O H [u] [v]:=Ź h ùH
def aZ.uH{u:au}[17](h:aZ K O H [u] vs):∃v,vs=[v]/\úv:=by ext bP;rw[h3.dN];exact Ł'
def aZ.un2[256][17](h:aZ K O H [u,w] vs):∃v x,vs=[v,x]/\úv/\Rl K O H w x:=by ext b;ext bP;let⟨x,rfl,h4⟩:=h3.uH;ext a;exact(v,x,rfl,h2,h4)
theorem aZ.ints:∀[53],aZ K O H üW ýb
 |[]=>ùH
 |ą2=>Ź (ćK) (Đ6)
def Rl.bK[29]{v:V}(h:Rl K O H ļ v):v=ĝ:=Āb
def Rl.vZ[1]{v:V}(h:Rl K O H ùJ v):v=Ś:=Āb
def Rl.kH[4]{v:V}(h:Rl K O H üN v):v=ük:=Āb
def Rl.j0{v:V}(h:Rl K O H .cq v):v=.cq:=Āb
def Rl.AW[6]{v:V}[470]:ĩ3:=Āb
def Rl.gj[6]{v:V}[470]:ĖU:=let⟨a,vs,h1,h2,h3⟩:=h.AW;(a,vs,h1,mM.of h2,h3)
def Rl.mt_[6]{v:V}(h:Rl K O H (ąj) v):ĖU:=Āb
def Rl.abS[6]{a:Vi}[17](h:ĝW)(r:ū):Rl K O H (ąj) ś:=īO
def Rl.cY[3]{v:V}(h:Rl K O H Ħ v):ŀ7:=Āb
def Rl.mkInt[28]:Rl K O H ļ ļ:=ćK
def Rl.JX[10]:Rl K O H ùJ ùJ:=ćK
def Rl.mkStr[21]:Rl K O H üN üN:=ćK
def Rl.AX:Rl K O H .cq .cq:=ćK
def Rl.kW[6]{a:Vi}[17](h:ľK)(r:ū):Rl K O H ÿK ś:=īO
def Rl.xE[3]{a:Vi}(h:þZ):Rl K O H Ħ ś:=by unfold Rl;exact(a,rfl,h)
open e
def eJ(K:Va)[50](aA:úr)(cg:ùl):Prop:=(ďL=ği/\aZ K O H Ņm (cg.map ŗ))
def kX:Option aH->Bool
 |ŀz=>true
 |_=>false
def aeg[294][110]:Prop:=(∃(o:Obj)(aE:Ů)(n:Nat),ġh/\ē7 /\ ĈI/\ĎN/\ėF/\ba vs ýE)
def iJ(K:Va)[50]:aH->Vi->Prop
 |ÿa,a=>∃vs,H a=ćw/\ū
 |.Tt us,a=>∃o vs,H a=some (.jl o đr)/\ū
 |.mod us,a=>∃vs,aeg K a vs/\ū
 |ąg,a=>∃cg,H a=some ĒF/\ĀF
 |.dT aA,a=>∃cg,H a=some (.dT cg)/\ĀF
 |.fd aA,a=>∃o cg,H a=some (.jl o ĒF)/\ĀF
 |.tab x l c q,a=>(∃cd,W.tabIn K x=some %[cd|a])/\Tab H a l c q
 |.ins c fs,a=>∃C dx gs,H a=some (.ins C dx gs)/\ú3/\ďw
structure SR(K:Va)(O:Ve)[2](H:Hp):Prop where
 len:ĒT=øu
 nd:∀(n m:Nat)a,þZ->O[m]?=Ō->ŃB->kX ĔL=false->n=m
 cell:∀[7]c a,Ĥt->þZ->Ęu
def jb{l:ř}[3]{x:α}(h:l[n]?=ī):n<Ÿ:=by
 rcases øI n Ÿ with q|q
 .ext m
 .ext bc
section
variable{K:Va}[8]
def iJ.there[352](hn:Ē5=false):∃o,āq/\ŀ6:=by
 cases c with
 |lst us=>ext fb
 |Tt us=>ext lb
 |fd us=>ext lb
 |mod us=>cases hn
 |dK aA=>ext fb
 |dT aA=>ext fb
 |tab x l c q=>rcases h.2 with h|⟨_,_,_,_,h,_⟩<;>exact Čj
 |ins c fs=>let⟨_,_,_,h,_⟩:=h;exact Čj
def iJ.mono[352][47](ha:Ē5=true\/H' a=H a):Ľ3:=by
 cases c with
 |mod us=>ext fZ;exact(vs,h,ĐP)
 |lst us=>rcases ha with ha|ha<;>first|ext cf|(ext fZ;exact(vs,Ā5,ĐP))
 |Tt us=>rcases ha with ha|ha<;>first|ext cf|(ext nA;exact(o,vs,Ā5,ĐP))
 |dK aA=>ext hn
 |dT aA=>ext hn
 |fd aA=>rcases ha with ha|ha<;>first|ext cf|(ext nA;exact(o,vs,Ā5,r.1,ŀR))
 |ins c fs=>rcases ha with ha|ha<;>first|ext cf|(let⟨C,dx,gs,h,hn,r⟩:=h;exact(C,dx,gs,Ā5,hn,r.1,ŀR))
 |tab x l c q=>
  refine(h.1,?_);rcases ha with ha|ha
  .cases ha
  .rcases h.2 with h|⟨c',oc,vs,t,h,h2,h3⟩
   .exact .inl (Ā5)
   .exact .inr (c',oc,vs,t,Ā5,e.jl _ _ _ h2,h3)
def iJ.grow[352][47](s:nX H H'):Ľ3:=by
 cases z:Ē5 with
 |true=>exact h.mono e (.inl z)
 |false=>
  let⟨o,ho,_⟩:=h.there z;exact h.mono e (.inr (by rw[ho];exact s _ _ ho))
def SR.there(s:þp)[3]{a:Vi}(h:þZ):∃c,Ĥt/\Ęu:=by
 have hn:=jb h;have RU:n<øu:=by rw[<-ÿ4];exact hn
 exact(st[n],ħ RU,ĔJ n _ a (ħ RU) h)
def SR.grow(s:þp)[280]:ł3:=
 (ÿ4,s.nd,λn c a h1 h2=>(ĔJ n c a h1 h2).grow (ēG e) e)
def SR.Q9(s:þp){p:Vi}[249][3](h:O[n]?=some p)(hm:ŃB):False:=by let⟨c,hc,k⟩:=s.there h;rw[hc]at hm;let⟨o,ho,_⟩:=k.there hm;rw[hp]at ho;cases ho
def b7{p:Vi}{o:HO}[249]:nX H Đw:=nX.upd (nX.refl H) hp
def SR.alloc(s:þp){p:Vi}{o:HO}{c:aH}[249](k:iJ K ûx Đw c p):SR K ûx đw Đw:=by
 have e:nX H Đw:=b7 hp;have at_:∀[7](a:Vi),ûx[n]?=Ō->(n<øu/\þZ/\đw[n]?=Š)\/(n=øu/\a=p/\đw[n]?=ň):=by
  intro n a h;rcases ęH n øu with q|q|q
  .rw[øW (by rw[ÿ4];ext m)]at h;exact .inl (q,h,øW q)
  .subst q;rw[úl (by rw[ÿ4];ext K),ÿ4,úu]at h;ext e;refine .inr ļ6;ext eu
  .rw[čA (by rw[Ď,Ăw,ÿ4];ext c)]at h;ext e
 refine(by rw[Ď,Ď,ÿ4];rfl,λn m a h1 h2 m1 m2=>?_,λn c' a h1 h2=>?_)
 .rcases at_ n a h1 with⟨q1,q2,q3⟩|⟨q1,q2,q3⟩<;>rcases at_ m a h2 with⟨r1,r2,r3⟩|⟨r1,r2,r3⟩
  .rw[q3]at m1;rw[r3]at m2;exact s.nd n m a q2 r2 m1 m2
  .subst r2;rw[q3]at m1;exact(s.Q9 hp q2 m1).elim
  .subst q2;rw[r3]at m2;exact(s.Q9 hp r2 m2).elim
  .rw[q1,r1]
 .rcases at_ n a h2 with⟨q1,q2,q3⟩|⟨q1,q2,q3⟩
  .rw[q3]at h1;exact(ĔJ n c' a h1 q2).grow (ĉf p e) e
  .rw[q3]at h1;ext aL;subst q2;exact k
def aD.put{a:Vi}{o o':HO}(h:āq)[426]:aD O H O ěL:=by
 refine(ęl,λb xs e=>?_,λb x u e=>?_)
 .rw[aO ĉb]
  .exact e
  .ext A;rw[h]at e;exact h1 _ (Ăc)
 .rw[aO ĉb]
  .exact e
  .ext A;rw[h]at e;exact h2 _ _ (Ăc)
def SR.set(s:þp)[3]{a:Vi}{o o':HO}{c c':aH}(h:Ĥt)(hc:Ē5=false)(bW:kX (some c')=false)[180](ho:āq)[426](k:iJ K O ěL c' a):SR K O łe ěL:=by
 have hn:n<øu:=jb h;have at_:∀[96],kX łe[m]?=kX ĔL:=λm=>by
  by_cases z:m=n
  .ext A;rw[ő hn,h,hc,bW]
  .rw[ęa]
 refine(by rw[Ŕ];exact ÿ4,λi m b q1 q2 m1 m2=>s.nd i m b q1 q2 (by rw[<-at_];exact m1) (by rw[<-at_];exact m2),λm d b q1 q2=>?_);by_cases z:m=n
 .ext A;rw[ha]at q2;cases q2;rw[ő hn]at q1;cases q1;exact k
 .rw[ęa]at q1;have kb:=ĔJ m d b q1 q2;cases zm:kX (some d) with
  |true=>exact kb.mono Ĵp (.inl zm)
  |false=>
   have hb:b≠a:=λy=>z (s.nd m n a (by rw[<-y];exact q2) ha (by rw[q1];exact zm) (by rw[h];exact hc));exact kb.mono Ĵp (.inr (aO hb))
open e
def EF(W:Wo)[50](u:au)(v:V):Prop:=(match u with
 |.exc c=>∃a oe C,úT/\%[a|oe]∈W.pn/\ĈV/\ûG=ýY
 |.fn L u=>∃f c c' cv,v=.ref f/\Clo L H f c c' cv/\Rl W.K O H u cv
 |u=>ć1)
def EF.mono{W:Wo}[51](h:Ĉr)[47]:EF W bi H' u v:=by
 cases u with
 |exc c=>ext j
 |fn L u=>let⟨f,c,c',cv,h1,C,r⟩:=h;exact(f,c,c',cv,h1,C.mono (λb o u q=>e.jl b o u q),üy e _ _ r)
 |_=>exact üy e _ _ h
def EF.of{W:Wo}[51](h:ć1):Ĉr:=by
 cases u with
 |exc c=>ext gx;ext u
 |fn L u=>ext gx;ext u
 |_=>ext j
structure RS(W:Wo)[50][14](Y:St):Prop where
 len:Z.length=Ē0
 at_:∀[5]u,ċt=some āU->∃v,ĠI/\Ĉr
section
variable{W:Wo}[63]
def RS.mono(r:ýt)[47]:RS W bi H' Z Y:=(r.len,λi u h=>let⟨v,h1,h2⟩:=r.at_ i u h;(v,h1,h2.mono e))
def RS.abT(r:ýt)[5][51](h:Ĉr):ĭA:=by
 refine(by rw[Ŕ,Ŕ];exact r.len,λj w e=>?_);by_cases z:j=i
 .ext A;have hj:=jb e;rw[Ŕ]at hj;rw[ő hj]at e;ext g;exact(v,ő (by rw[<-r.len];exact hj),h)
 .rw[ęa]at e⊢;exact r.at_ j w e
def RS.set(r:ýt)[5][51](h:ć1):ĭA:=r.abT i (EF.of h)
open e
abbrev ME:=Env->þk
abbrev MT:=Env->Ę7
abbrev MA:=Env->ĜL
abbrev MB:=Env->ăU
def wR[170](R:þq)[50](Q:ÿD):ûF->Prop
 |.ok u ay=>ħq
 |đF=>∃C,ĈV/\∀bi H',ún->ĚA->ĿU
 |.bad=>False
def wR.mono{W:Wo}{R:þq}{Q:ÿD}[205](h:wR W E R O H Q r)[47]:wR W E R bi H' Q r:=by
 cases r with
 |ok u st=>ext jk
 |err c st=>ext ic
 |bad=>ext j
def wR.pn[131]{pn:U'}{R:þq}{Q:ÿD}[205](h:wR ĞB E R O H Q r):wR ĞA E R O H Q r:=by cases r<;>exact h
def tG[170](R:þq)(m:ăr):St->Hp->(ÿD)->Prop:=(
 λY H Q=>∃Z O st,ýt/\ýq/\wR W E R O H Q ĔZ)
abbrev RB:Ve->Hp->Bool->Bool->Prop:=λ_ _ b c=>c=b
abbrev tE[104](m:ME):TE:=tG ā E Ąe m
abbrev tT[104](m:MT):TT:=tG ā E RB m
abbrev tL[104](m:MA):TA:=tG ā E (aZ X.K) m
def go{γ δ:Type}{W:Wo}{R1:þq}{R2:Ve->Hp->γ->δ->Prop}{m:ăr}{k:α->ai->bR γ}{Q:δ->øZ}{Q':ÿD}[14](O:Ve)[2](rs:ýt)(sr:ýq)(h:wR W E R2 O H Q (ø4 k))(c:∀u aK bv H1 x,Đl->Ļ4->ł0->wR W E R2 bv H1 Q ğ4->Q' x H1):ķk:=by
 ext bB;cases e:üt with
 |ok u aK=>
  ext aB;ext mH;exact c u aK bv H1 x e1 bG r1 (ē0 h e1)
 |err c aK=>ext az
 |bad=>ext az
def PE.imp{t t':TE}(h:PE X e t)[156]:PE X e t':=ĕ9
def PT.imp{t t':TT}(h:PT X e t)[156]:PT X e t':=ĕ9
def PW.imp{t t':TT}(h:PW X e t)[156]:PW X e t':=λw ak s Y H Q I q=>h w ak s Y H Q I Ĝk
def PA.imp{e:ûr}{t t':TA}(h:PA X e t)[156]:PA X e t':=λp ak s Y H Q I q=>h p ak s Y H Q I Ĝk
def PS.imp{e:Stmt}{t t':TS}(h:PS X e t)[442]:PS X e t':=Ĩu
def kM.imp{e:úF}{t t':TS}(h:kM X e t)[442]:kM X e t':=Ĩu
def PG.imp{t t':TG}(h:PG X e t)[428]:PG X e t':=ĦZ
def dE.imp[203]{t t':R2}(h:dE X f t)[429]:dE X f t':=λak s Y H x y v u Q I rx ry q=>h ak s Y H x y v u Q I rx ry Ļn
def aW.imp{f:Vg}{t t':ýi}(h:aW X f t)(k:∀xs H Q,t' xs H Q->t xs H Q):aW X f t':=λak s Y H xs us Q I r q=>h ak s Y H xs us Q I r (k xs H Q q)
def Ct.imp{t t':R2}(h:Ct X t)[429]:Ct X t':=λva sl ak s Y H x y v u Q I rx ry q e=>h va sl ak s Y H x y v u Q I rx ry Ļn e
def we:āk
 |Ĕm=>true
 |ĉW=>true
 |_=>false
def nZ[5]:ME:=(λZ st=>match ċt with
 |ĀP=>if we v=true then .bad else ù9
 |_=>.bad)
def EF.un{W:Wo}[51](h:Ĉr)(n:¬ we u=true):ć1:=by
 cases u with
 |exc c=>exact Ńf
 |fn L u=>exact Ńf
 |_=>ext j
def mC(v:au):ME:=(λ_ st=>ù9)
def Tv[5][4](hN:İ3)(hv:autoParam (ĒV) ĈL)[38][431]:PE X ĀL (tE X E (nZ i)):=by
 refine İ ęw ?_;ext p;ext b;ext k;unfold nZ at h;ext a;ext f
 .rename_i v e;ext b;let⟨w,e',r⟩:=rs.at_ i v e;ext a;ext f
  ext h
  .ext ag;exact(w,e',h O H w Ģ sr (r.un n))
 ext h
def AY{v:V}{c:au}(h:PE X e ģe)(r:∀O H,Rl X.K O H c v):PE X e ķU:=by refine İ h ?_;ext p;ext b;ext k;ext a;exact h O H v Ģ sr (r O H)
def Tw{i j}:PE X ķZ (tE X E (mC ļ)):=AY RV Ń6
def abU{b j}:PE X Ĳv (tE X E (mC ùJ)):=AY QU λ_ _=>ċr b
def Tx{j}:PE X ķY (tE X E ĉp):=AY RW λ_ _=>Rl.AX
def Tz{x j}:PE X ķX (tE X E (mC üN)):=AY RX λ_ _=>Ąo x
structure Glob[68][21](c:au):Prop where
 at_:∃(u:Vg)(v:V),mg x=Ę/\øn/\∀O H,Rl K O H c v
def tH[4]{c:au}[45](h:Glob X.K X.mg x c)[38]:PE X ĀL ķU:=by ext b;let⟨u,v,h1,h2,h3⟩:=h.at_;ext a;exact AY (yB hg h1 h2 hd) h3
abbrev F2:=au->ûB
def rM[170](f:F2):R2:=(λx y H Q=>∃O st u w,ýq/\ĽJ/\Rl W.K O H w y/\wR W E Ā' O H Q (f u w st))
def ao(f:F2)[247]:ME:=(λZ st=>ùu λx aK=>łj λy bP=>f x y bP)
section
variable[222]{ma mb mc:ME}{f g:F2}
def oS{Q:VK}(h:tE X E ė4 Y H Q):tOp ĎZ Ŀj Đu Y H Q:=by ext b;ext dd;ext a;ext y;ext ib;exact(dl,bP,u,w,m9,ĆB,r2,h2)
def j8{op:Operator}(ho:dE X Ļd ĎZ)[31]:PE X ı9 Ğh:=
 İ (abh ho ha hb) ĚO
def jo[487][31][408]:PE X ČW Ğh:=
 İ (NC ho ha hb hm) ĚO
def bx(m:ME):MT:=(λZ st=>ø4 λv ay=>match v with
 |Ś=>.ok b ay
 |_=>.bad)
def AZ{m:ME}{Q:Ąk}(h:tT X E (bx m) Y H Q):tE X E m Y H ĭQ:=by
 ext b;ext dd;ext a;ext y;cases u with
 |bl b=>exact(b,ąJ,h1 bv H1 b Ģ bG rfl)
 |_=>ext s
def jq[487][31][408]:PT X ČW (tT X E (bx ė4)):=
 PT.imp (ND ho ha hb hm) λY H Q h=>by exact oS (AZ h)
def TB[343](he:autoParam (∀whole,isTrue a Ā whole=(do let v <- whole;standAt a.pos;ıV)) ĝ4):PT X a (tT X E (bx m)):=
 PT.imp (RY h he) λY H Q h=>AZ h
def aeh(f g:F2)(a b c:ME):ME:=(λZ st=>ùu λx aK=>łj λy bP=>(f x y bP).bind λz kG=>match z with
 |Ż=>(c Z kG).bind λw sE=>g y w sE
 |ùR=>.ok új kG
 |_=>.bad)
def wg[247]:ME:=(λZ st=>ùu λx aK=>match x with
 |Ż=>Ą6
 |ùR=>.ok új aK
 |_=>.bad)
def mOr[247]:ME:=(λZ st=>ùu λx aK=>match x with
 |Ż=>.ok øz aK
 |ùR=>Ą6
 |_=>.bad)
def Om(a:ME):ME:=(λZ st=>ùu λx aK=>match x with
 |Ś=>.ok ĝa aK
 |_=>.bad)
def oU(a b:MT):MT:=(λZ st=>ùu λx aK=>match x with
 |true=>Ą6
 |false=>ăD)
def fJ(a b:MT):MT:=(λZ st=>ùu λx aK=>match x with
 |true=>ĎI
 |false=>Ą6)
def ck(a:MT):MT:=(λZ st=>ùu λx aK=>.ok (!x) aK)
def Oo(t:MT)[247]:ME:=(λZ st=>(ÿo).bind λx aK=>match x with
 |true=>a Z aK
 |false=>Ą6)
variable[379]{tA Np:MT}
def TC{op}[343]:PE X ĶO ĂC:=R7 h
def TH(ha:Ďd)(hb:PE X čl Đu):PE X ČE (tE X E (wg ma mb)):=by
 refine İ (R8 ha hb) ?_;ext p;ext b;ext k;ext a;ext y;cases u with
 |bl k=>
  refine ŁQ;cases k with
  |true=>ext ae;ext aG
  |false=>rw[ņ];exact h1 bv H1 _ Ģ bG (ċr false)
 |_=>ext s
def abV(ha:Ďd)(hb:PE X čm Đu):PE X či (tE X E (mOr ma mb)):=by
 refine İ (aba ha hb) ?_;ext p;ext b;ext k;ext a;ext y;cases u with
 |bl k=>
  refine ŁQ;cases k with
  |true=>ext ae;exact h1 bv H1 _ Ģ bG (ċr true)
  |false=>rw[ņ];ext aG
 |_=>ext s
def TJ(ha:Ďd):PE X čt (tE X E (Om ma)):=by
 refine İ (R9 ha) ?_;ext p;ext b;ext k;ext a;ext y;cases u with
 |bl k=>exact(k,ąJ,h1 bv H1 _ Ģ bG (ċr _))
 |_=>ext s
def Oq[210]:PW X ĳv Đv:=Nq ha
def TK[210]:PW X Ĵv Đv:=RZ ha
def TL[210](hb:PW X čl Ŀm):PW X ČE (tT X E (oU tA Np)):=by
 refine PW.imp (R0 ha hb) ?_;ext p;ext b;ext k;ext a;ext y;ext av;cases u with
 |true=>ext ae;ext aG
 |false=>rw[ņ];ext eW
def abW[210](hb:PW X čm Ŀm):PW X či (tT X E (fJ tA Np)):=by
 refine PW.imp (aa! ha hb) ?_;ext p;ext b;ext k;ext a;ext y;ext av;cases u with
 |true=>ext ae;ext eW
 |false=>rw[ņ];ext aG
def aei{t:MT}(h:PW X e ĚY):PT X e ĚY:=h.pt
def TM[210]:PT X čt (tT X E (ck tA)):=by refine PT.imp (R6 ha) ?_;ext p;ext b;ext k;ext a;ext y;ext av;ext eW
def abX(hc:PT X c Đv)[31]:PE X ĳe (tE X E (Oo tA ma mb)):=by
 refine İ (IY hc ha hb) ?_;ext p;ext b;ext k;ext a;ext y;ext av;cases u with
 |true=>ext ae;ext aG
 |false=>rw[ņ];ext aG
open e
def aw:MA:=(λ_ st=>.ok [] st)
def ag(a:ME)(r:MA):MA:=(λZ st=>ùu λx aK=>(r Z aK).bind λxs bP=>.ok (úY) bP)
abbrev aM: ME := nZ 0
abbrev bo: ME := nZ 1
abbrev bB: ME := nZ 2
abbrev bX: ME := nZ 3
abbrev gf: ME := nZ 4
abbrev fI: ME := nZ 5
abbrev jS: ME := nZ 6
abbrev tJ: ME := nZ 7
abbrev A3: ME := nZ 8
abbrev bp: ME := mC ùg
abbrev cG: ME := mC þa
abbrev i!: ME := mC (øc)
abbrev v5: ME := mC (ùC)
abbrev JY: ME := mC (āP)
abbrev qc8: ME := mC (.int 8)
abbrev Hb: ME := mC (.int 11)
abbrev qs(x : Str): ME := mC üN
abbrev qI(i : Int): ć := some ļ
abbrev qN(n : Nat): ć := some ÿS
abbrev qS(x : Str): ć := some üN
abbrev qL(n : Nat): ć := ĐB
abbrev qn: ć := none
def cH(a:MA):ME:=(λZ st=>ùu λxs aK=>if ùX then .ok ĀK aK else .bad)
def bL(a:MA):ME:=(λZ st=>ùu λxs aK=>if ùX then .ok (ěf) (aK++[ĉX])else .bad)
abbrev FN:=ĄQ
def ax(f:FN)(a:MA):ME:=(λZ st=>ùu λxs aK=>f xs aK)
def IK(W:Wo)(f:FN):Sp:=(λvs H Q E=>∃us O st,Ěh/\ýq/\ĵm)
def cM[170](f:FN):ýi:=(λxs H Q=>∃O st us,ýq/\ĺn/\ĵm)
section
variable[30]{m:ME}[116]{f:FN}[4]
def TN:PA X [] (tL X E aw):=PA.imp p! λY H Q ĘP=>h O H [] Ģ sr ùH
def Ot(ha:čz)(hr:ĝM)[182]:PA X ŵ (tL X E (ag m ms)):=by refine PA.imp (g_ ha hr hs) ?_;ext p;ext b;ext k;ext a;ext y;ext ib;exact h2 dl H2 _ Ģ m9 (Ź ĕf r2)
def TQ{k}(h:ĝM):PE X ęd (tE X E (cH ms)):=by
 refine İ (Sw h) ?_;ext p;ext b;ext k;ext a;ext aD;ext fh
 .ext mg;have s:=b7 (o:=ĒI) hp;exact h1 bv _ _ ýw (bG.grow s) (ûM bg (øw ýw _ _ r1))
 ext dc
def hJ{K:Va}[8][6][144][112][474]{p:Vi}[249]:
  aD O H ûx Ě8/\SR K ûx ę9 Ě8/\Rl K ûx Ě8 øq øA:=by
 have s:=b7 (o:=ĉX) hp;refine(ĉf p s,sr.alloc hp (xs,bg,øw ĞR _ _ r),ąO ?_);ext lE
def TR(h:ĝM):PE X Ĺe (tE X E (bL ms)):=by
 refine İ (Sx h) ?_;ext p;ext b;ext k;ext a;ext aD;ext fh
 .ext mg;let⟨a,b,c⟩:=hJ bG r1 hp;exact h1 _ _ _ a b c
 ext dc
def Ou[44](F:gN Đ X.w X.K X.mg ùb CX k fa fd ps Łt)[127][45](hm:ýM=Ċi)(hk:ă6 X.K ĆZ=true)[329][66][48]:
  ČS:=by
 refine İ (NH F hr hg hm hk hb .nil hx ha jY he g!) ?_;ext p;ext b;ext k;ext a;ext aD;ext ad;exact(us,bv,aK,r1,bG,wR.pn h1)
def gG[227](hc:aW X þR ļS)[86][339][66][65][48]:ČS:=by refine İ (oM hc hg hm hv ha hn jY he g!) ?_;ext ho
def iw[173](hc:aW X Ą_ ļS)[86](hv:ĎT)[66][65][48]:ČS:=by refine İ (GP hc hg hm hv ha hn jY he g!) ?_;ext ho
open e
section
variable[234]{ma mb:ME}{f:F2}
def abY(hr:Ct X ĎZ)[31][435]:PE X Ě' Ğh:=
 İ (aby hr ha hb hs) ĚO
open e
def wS[170][50][108]:Ģk
 |ÿp=>Īk
 |úO=>ħV
 |ĒJ=>Īi
 |ĒK=>Īj
 |.er c _ st=>∃C,ĈV/\∀bi H',ún->ĂE->ĿU
 |.bad=>False
def wS.mono{W:Wo}{r:b!}(h:wS W E O H D r)[47]:wS W E bi H' D r:=by
 cases r with
 |nx Z st=>ext ba
 |rt v st=>ext jl
 |bk Z st=>ext ba
 |ct Z st=>ext ba
 |er c Z st=>ext ic
 |bad=>ext j
def tS[104](m:MB):TS:=(λD Y H=>∃Z O st,ĀD/\Āg/\wS ā E O H D ĔZ)
@[reducible] def bR.sb(r:ûF)[14](k:ąa):b!:=match r with
 |ĉy=>āy
 |Ąi=>ă3
 |.bad=>.bad
def JZ{W:Wo}{R1:þq}{m:ăr}{k:ąa}{Q':ÿD}[14](O:Ve)[2](rs:ýt)(sr:ýq)(h:wS W E O H D ń7)(c:∀u aK bv H1 x,Đl->Ļ4->ł0->wS W E bv H1 D ğ4->Q' x H1):ķk:=by
 ext bB;cases e:üt with
 |ok u aK=>
  ext aB;ext mH;exact c u aK bv H1 x e1 bG r1 (ē1 h e1)
 |err c aK=>ext az
 |bad=>ext az
def aT:MB:=(λZ st=>ÿp)
def aB(a b:MB):MB:=(λZ st=>match ār with
 |Ŧ=>b bn ay
 |r=>r)
def bH(m:ME):MB:=(λZ st=>Ąf Z λ_ ay=>.nx Z ay)
def bb(m:ME):MB:=(λZ st=>Ąf Z λv ay=>øb)
def dP(t:MT)(a b:MB):MB:=(λZ st=>(ÿo).sb Z λk ay=>match k with
 |true=>a Z ay
 |false=>b Z ay)
def aN[5](m:ME):MB:=(λZ st=>Ąf Z λv ay=>.nx ćP ay)
def fK[82](m:MA):MB:=(λZ st=>Ąf Z λvs ay=>if Ă' then .er c Z ay else .bad)
section
variable{s1:Stmt}{rest:úF}{m:ME}{a b:MB}
def TU:kM X [] (tS X E aT):=kM.imp Nr λD Y H ĘP=>h O H Y Ģ sr rs
def EG[490](h2:kM X rest Ł7):kM X (s1::rest) (tS X E (aB a b)):=by
 refine kM.imp (IZ h1 h2) ?_;ext al;ext b;ext k;ext a;ext bB;unfold aB at h;cases e:ār with
 |nx bn ay=>
  ext aB;intro bv H1 Ch e1 bG rs1;exact(bn,bv,ay,rs1,bG,ē1 h e1)
 |rt v ay=>ext az
 |bk bn ay=>ext az
 |ct bn ay=>ext az
 |er c bn ay=>ext az
 |bad=>ext az
def J0[490]:kM X [s1] ĚX:=Nt h1
def Ov[181][260]:PS X ďA (tS X E (bH m)):=by refine úR (Nu he hs) ?_;ext al;ext b;ext k;ext a;exact JZ Z O st rs sr h ħx
def TV[181]:PS X įR (tS X E (bb m)):=by refine úR (R! he) ?_;ext al;ext b;ext k;ext a;exact JZ Z O st rs sr h λu aK bv H1 x e1 bG r1 h1=>h1 bv H1 x Ģ bG r1
def abZ[186]{sa sb:úF}{t:MT}[502](ha:kM X sa ĚX)(hb:kM X sb Ł7):PS X (.If c sa sb pos) (tS X E (dP t a b)):=by
 refine úR (abe hc ha hb) ?_;ext al;ext b;ext k;ext a;refine JZ Z O st rs sr h ĬJ;ext av;cases u with
 |true=>ext ae;ext aG
 |false=>rw[ņ];ext aG
def A5(h:tS X E (aN i m) D Y H):R' ĂC Ĕb D Y H:=by ext b;ext dd;ext a;exact JZ Z O st rs sr h λu aK bv H1 x e1 bG r1 h1=>h1 bv H1 _ Ģ bG ((Će).set i r1)
def TX[5][4][126][181][310][305][119]:ĮM:=
 úR (Sa hN hi hx he hs hf) λ_ _ _ h=>A5 h
def J1[4]{B C7:String}{bm:Vc}[116][344][42][400][388][38]:
  Ħn:=by
 refine úR (JT hX hc hm hq FB hg ha he g! hd) ?_;ext al;ext b;ext k;ext a;refine JZ Z O st rs sr h īX;ext fh
 .ext b;rw[ă0]at h1;let⟨C',q1,q2⟩:=h1;have e:C'=C:=by have:=q1.symm.trans hm;ext fr;injection this
  ext l;ext a;exact(ħv,q2 bv H1 Ģ bG)
 ext dc
open e
def fL(np n:Nat)[175]:FN:=(λus st=>if ĉ=np then(match body (Ėd) st with
 |.nx _ ay=>.ok .cq ay
 |øb=>ĄC
 |.er c _ ay=>đF
 |_=>.bad)else .bad)
def RS.start{W:Wo}[6][17](r:Ěh):RS W O H ĪJ (Ģf N vs):=by
 have hl:=úb;refine(by simp[Ģf,hl],ņ4);rcases øI i ĉ with q|q
 .rw[øW ĵY,ĭ]at e;have e':Ąb:=by
   cases z:ĔN with
   |none=>ext ah;ext g
   |some w=>ext ah;exact congrArg _ (ùQ (Ăc))
  let⟨v,h1,h2⟩:=r.get e';refine(v,?_,EF.of h2);unfold Ģf;rw[øW (by rw[č,<-hl];ext m),ĭ,h1];rfl
 .rw[úl ĵY]at e;rw[Č9]at e;split at e
  .ext g
  .ext g
section
variable[131]
def yS[4][93][44][92][327](S:ăT)
  (h:∀ [189] (A:Vj) [226] (s:Vh) (H:Hp) (E:XK),Īc ->
   kM ĕI ÿn (tS ĕI E body)):
  gN P w K mg base üb øe f fd ps (IK Ąd čn):=by
 refine F.okX S (λvs H Q E q=>?_) (λd5 A outer s H vs Q E hr q=>(_,h d5 A outer s H E hr,?_))
 .ext b;let⟨us,O,st,r,sr,q⟩:=q;ext a;by_cases hl:āN
  .rw[<-úb];exact hl
  .unfold fL at q;ext lf
 .ext b;let⟨us,O,ay,r,sr,q⟩:=q;unfold fL at q;ext a;by_cases hl:āN
  .rw[if_pos hl,<-hl]at q;refine(_,O,ay,RS.start r,sr,?_);revert q;cases body ĪJ ay with
   |nx Z bP=>exact λq bi H' cx e s _=>q bi H' .cq e s Rl.AX
   |rt v bP=>ext bv
   |er c Z bP=>ext bv
   |bk Z bP=>ext bU
   |ct Z bP=>ext bU
   |bad=>ext bU
  .ext lf
open e
def Sz[28]:Prop:=(Ğu)
instance [28]:Decidable (Sz i):=inferInstanceAs (Decidable (_<_))
def Sz.big[29](h:Sz i):sj 1000001 i:=by have h1:Ā1<2 ^ (ėV+1):=ĺa;exact ľ h1 (ü8 ø (by have:Ğu:=h;ext c))
def Sz.of[29](h:ĊZ)(hk:k<=1000000):Sz i:=by
 show Ğu;have h':Ēb:=h;by_cases z:Ā1=0
 .rw[z];decide
 .exact ľ (Ŀu h') hk
def Sz.mul[24](h:Sz i)(k:Sz j):EA i j:=(_,_,h.big,k.big,øi,øi)
def Dz[28]:Prop:=(i≠0/\ėV<8000)
instance [28]:Decidable (Dz i):=inferInstanceAs (Decidable (_/\_))
def Dz.ok[24](h:Dz j):EB i j:=by refine(h.1,?_);have h1:Ģx<2 ^ (j.natAbs.log2+1):=ĺa;exact ľ h1 (ü8 ø (by have:=h.2;ext c))
def Dz.of[29](h0:i≠0)(h:ĊZ)(hk:k<=8000):Dz i:=by refine(h0,?_);have h':Ēb:=h;exact ľ ((ďJ ø).mpr h') hk
def MulOk[105]:Prop:=((Sz i/\Sz j)\/Ja i j)
instance [105]:Decidable (Ja i j):=Ī8
instance [105]:Decidable (Ġu):=Ī8
instance [105]:Decidable (adQ i j):=inferInstanceAs (Decidable (_/\_/\_))
def EI[22][37]:ý:=(ĳt)
def cA:F2
 |ĝ,ø7,st=>ĴB
 |.str a,.str b,st=>if Ē1+b.length<=sizeLine then .ok (.str (a++b)) st else .bad
 |Ŷ,ĉZ,st=>if ću then .ok (.tup Ĉq) st else .bad
 |Ġ,āB,st=>match Š,ĔL with
  |ũ,ău=>if ću then .ok øq (st++[ġV])else .bad
  |_,_=>.bad
 |_,_,_=>.bad
def sF(g:ěR):F2
 |ĝ,ø7,st=>g i j st
 |_,_,_=>.bad
def Ow(g:ěR)(u w:au)[2]:(∃i j,u=ĝ/\w=ø7)\/ņz=.bad:=by
 cases u with
 |int i=>
  cases w with
  |int j=>exact .inl (i,j,rfl,rfl)
  |_=>exact ġN
 |_=>exact ġN
def gB{g:ěR}{W:Wo}[8]{Q:VK}[256](h:wR W E Ā' O H Q (ņz)):∃i j,u=ĝ/\w=ø7/\wR W E Ā' O H Q (g i j st):=by
 rcases Ow g u w st with⟨i,j,rfl,rfl⟩|z
 .exact(i,j,rfl,rfl,h)
 .ext aC;ext u
def gb:F2:=(sF λi j st=>ĴC)
def du:F2
 |ĝ,ø7,st=>if Ġu then ĥ4 else .bad
 |Ġ,ÿL,st=>match Š with
  |ũ=>if Ġj/\k<ýT/\ĸ0 then īJ else .bad
  |_=>.bad
 |_,_,_=>.bad
def iL:F2:=(sF λi j st=>if Dz j then łw else .bad)
def cw:F2:=(sF λi j st=>if j=0 then .bad else łx)
def ltV:F2:=(sF λi j st=>ĶS)
def uI:F2:=(sF λi j st=>ĶQ)
def geV:F2:=(sF λi j st=>łv)
def bQ{W:Wo}[8]{Q:VK}[29](sr:ýq)(h:wR W E Ā' O H Q (.ok ļ st)):Q ļ H:=h O H _ Ģ sr (Ā8 i)
def dO{W:Wo}[8]{Q:VK}{i:Bool}(sr:ýq)(h:wR W E Ā' O H Q (.ok (.bl i) st)):Q (.bl i) H:=h O H _ Ģ sr (ċr i)
theorem aZ.ab0{K:Va}[6][144][474]:∀k:Nat,aZ K O H (EI k us) ĳu
 |0=>ùH
 |k+1=>by exact ĄM (aZ.ab0 r k)
def J2:dE X ăh (λx y H Q=>∃a b ys,øo/\Ăa/\mM X.K H a []/\mM X.K H b ys/\Q þb H):=by
 ext F;ext b;let⟨a,b,ys,rfl,rfl,ha,hb,q⟩:=h;ext ed;ext av;let⟨Ĵc,ho,hc,n,hd⟩:=id p1;let⟨ım,oG,tD,n2,hd2⟩:=id p2;ext a;ext jj;exact concat_meets ĝe ĝf noFill_tuple_add seq_tuple_add ė' ėR ĖP
  (tuple_addW0 a b #[] ă8 n n2 dd dd2 sl sl2 Ĉ) (ho,oG,(øM,H,I,rfl,q))
def Ox:dE X ăh (rM ā E cA):=by
 refine ùf (ÿ2 Si (ÿ2 CK (ÿ2 SK (ÿ2 NP J2)))) ?_;ext H;ext b;ext G;ext a;ext cS
 case int.int i j=>exact .inl (i,j,ùK,ùL,ùc)
 case str.str a b=>
  ext gz;ext I;ext f
  .ext x;exact .inr (.inl (a,b,r1.kH,r2.kH,hz,ĵM))
  ext h
 case tup.tup us ws=>
  ext gz;ext I;ext f
  .ext x;ext b;let⟨a,xs,rfl,ha,ra⟩:=ċQ;let⟨b,ys,rfl,hb,rb⟩:=ą3;ext a;by_cases hx:xs=[]
   .ext b;subst hx;have hu:us=[]:=ČK Ąv;subst hu;ext a;exact .inr (.inr (.inr (.inr (a,b,ys,rfl,rfl,ha,hb,h O H _ Ģ sr r2))))
   .refine .inr (.inr (.inr (.inl (a,b,xs,ys,rfl,rfl,ha,hb,hx,by rw[<-Ąv,<-Ġ9];ext aa,λhy=>?_,λhy p hp=>?_))))
    .ext b;subst hy;have hw:ws=[]:=ČK Ġ9;subst hw;rw[ń]at h;ext a;exact ĸG
    .have s:=b7 (o:=ěP) hp;exact h O _ _ ýw (ēX s) (ûM bg (øw ýw _ _ (ra.append rb)))
  ext h
 case loc.loc n m=>
  ext gz;ext I;ext f
  .rename_i us ws e1 e2;ext f
   .ext x;ext b;ext t;let⟨b,rfl,hb⟩:=r2.cY;ext jT;let⟨ys,h2,q2⟩:=ûy m _ b e2 hb;ext a;refine .inr (.inr (.inl (a,b,xs,ys,rfl,rfl,h1,h2,by rw[<-q1.length,<-q2.length];ext aa,øL)));ext b;let⟨k1,k2,k3⟩:=hJ sr (q1.append q2) hp;ext a;ext ay
   ext h
  ext h
def Oy:dE X ķL (rM ā E gb):=by refine ùf Sj ?_;ext H;ext b;ext G;ext bj;ext a;exact ėm
def Oz:dE X ĎE (rM ā E du):=by
 refine ùf (ÿ2 N6 (ÿ2 Sk SM)) ?_;ext H;ext b;ext G;ext a;ext cS
 case int.int i j=>
  unfold du at h;ext I;ext f
  .ext x;rcases hz with hz|hz
   .exact .inl (i,j,ùK,ùL,hz.1.mul hz.2,ùc)
   .exact .inr (.inl ĵE)
  ext h
 case loc.int n k=>
  unfold du at h;ext I;ext f
  .rename_i us e1;ext f
   .ext x;ext b;ext t;ext jT;ext a;refine .inr (.inr (a,k,xs,rfl,ùL,h1,hz.1,hz.2.1,by rw[<-q1.length];exact hz.2.2,øL));let⟨k1,k2,k3⟩:=hJ sr (q1.ab0 úL) hp;ext ay
   ext h
  ext h
def J3:dE X ıs (rM ā E iL):=by
 refine ùf JG ?_;ext H;ext b;ext G;ext cV;clear h;have h:=h0;ext a;clear h0
 .ext f
  .ext x;exact(i,j,ùK,ùL,hz.ok,ùc)
  ext h
def OA:dE X ķK (rM ā E cw):=by
 refine ùf NB ?_;ext H;ext b;ext G;ext cV;clear h;have h:=h0;ext a;clear h0
 .ext f
  ext h
  .ext x;exact ĵE
def J4:dE X ķM (rM ā E ltV):=by refine ùf abk ?_;ext H;ext b;ext G;ext bj;ext a;exact ėn
def J5:dE X ę4 (rM ā E uI):=by refine ùf abm ?_;ext H;ext b;ext G;ext bj;ext a;exact ėn
def J7:dE X Ķx (rM ā E geV):=by refine ùf abn ?_;ext H;ext b;ext G;ext bj;ext a;exact ėn
def yT(m:ME):ME:=(λZ st=>ø4 λv ay=>match v with
 |ĝ=>.ok Ĝc ay
 |_=>.bad)
def TY[254][343]:PE X (ġL .USub a pos) (tE X E (yT m)):=by
 refine İ (abi Sn h) ?_;ext p;ext b;ext k;ext a;ext y;cases u with
 |int i=>exact(i,ùK,bQ bG h1)
 |_=>ext s
def flat:āk
 |.cq=>true
 |úU=>true
 |üE=>true
 |ÿM=>true
 |_=>false
def TZ:au->āk
 |.cq,.cq=>true
 |ąM,Ś=>a==b
 |ąM,ąh=>įg
 |Ċz,Ś=>a==Ėl
 |Ċz,ąh=>a==b
 |.str a,.str b=>a==b
 |_,_=>false
def ar[2][7]:łT:=(match Š with
 |ũ=>đ
 |some (.Tt us)=>đ
 |some (.mod us)=>đ
 |_=>none)
inductive Vw where
 |lst [37]|tup [37]|se
def vw[2]:au->Option Vw
 |Ŷ=>some ÿK
 |Ġ=>ĞU .lst
 |.cq=>ĄN
 |úU=>ĄN
 |üE=>ĄN
 |ÿM=>ĄN
 |_=>none
def j9(f:Ā0):ý->ý->Ăn
 |[],[]=>Ğ
 |úY,ą6=>match f x y,j9 f xs ys with
  |Ō,ġ=>ĈJ
  |_,_=>none
 |[],_::_=>Ąa
 |_::_,[]=>Ąa
def i?:Nat->ai->Ā0
 |0,_,_,_=>none
 |n+1,st,u,w=>match ēZ,ģ9 with
  |some ÿK,some (ĉZ)=>ęr
  |ũ,ău=>ęr
  |ĄN,ĄN=>some (TZ u w)
  |ąy,ąy=>Ąa
  |_,_=>none
theorem uJ{f:Ā0}:∀[228][1],ďx->ĉ ≠ûi->b=false
 |[],[],_,_,h=>ĜK
 |[],_::_,b,e,_=>ĺr
 |_::_,[],b,e,_=>ĺr
 |úY,ą6,b,e,h=>by
  ext df
  .rename_i a c h1 h2;ext af;rw[<-e,uJ h2 (λz=>h ĖQ),ĀB]
  .ext g
theorem EJ{f:Ā0}:∀[228][1],ďx->∀[194](u w:au),ĔO=Ę->ws[j]?=Ċ0->∃c,f u w=ň
 |[],_,_,_,j,u,w,h1,_=>by ext aL
 |_::_,[],_,_,j,u,w,_,h2=>by ext ab
 |úY,ą6,b,e,j,u,w,h1,h2=>by
  ext df
  .ext oe;cases j with
   |zero=>ext aL;ext ab;exact(a,q1)
   |succ j=>exact EJ q2 j u w h1 h2
  .ext g
def eqJ(f:Ā0)[284][194]:Bool:=(match ĔO,ws[j]? with
 |Ę,Ċ0=>(f u w).getD true
 |_,_=>true)
theorem uK{f:Ā0}:∀[228][1],ďx->ĉ=ûi->(û2 ĉ).all (eqJ f us ws)=b
 |[],[],b,e,_=>by injection e
 |[],_::_,_,_,h=>ûh
 |_::_,[],_,_,h=>ûh
 |úY,ą6,b,e,h=>by
  have h':į=û7:=ĆG
  ext df
  .ext oe;ext af;rw[ă,ıE,Ĉe,ĜD,<-e,<-uK q2 h'];congr 1;show(f x y).getD true=a;rw[q1];rfl
  .ext g
section
variable{s:Vh}[8]
def a_[142][3][6]{a:Vi}(h:üD)[180]:∃vs,ě5/\ćJ:=by
 ext dI;ext f
 .ext aI;ext b;ext e;ext ki;ext a;exact(vs,kN.of h1,h2)
 .ext aI;ext b;ext e;let⟨o,vs,h1,h2⟩:=ûy n _ a e ha;ext a;exact(vs,.inl (Ņp),h2)
 .ext aI;ext b;ext e;ext ki;ext a;exact(vs,.inr h1,h2)
 ext aj
theorem EL[0][142]:∀[7](u w:au)(x:V)[10],ĀE->Rl X.K O H w x->ĝT=ġ->øR
 |0,_,_,_,_,_,_,e=>üh
 |n+1,u,w,x,b,r1,r2,e=>by
  have lst:∀[284][110][10],ćJ->aZ X.K O H ws vs->ęr=ġ->øR:=by
   intro us
   induction us with
   |nil=>
    ext ng;have:=h1.dN;ext r;have hw:ws=[]:=ČK h2.length;subst hw;ext af;ext dF
   |cons u us ih=>
    ext ng;let⟨v,r,rfl,q1,q2⟩:=h1.bA;cases ws with
    |nil=>have:=h2.dN;ext bx
    |cons w ws=>
     let⟨v',r',e',q3,q4⟩:=h2.bA;cases e';ext df
     .rename_i a c z1 z2;ext af;rw[<-e,EL I sr n u w v a q1 q3 z1,ih ws r c q2 q4 z2];rfl
     .ext g
  ext cc;cases u<;>cases w<;>dsimp only[vw]at e<;>try (ext g;done)
  all_goals first
   |(ext fi;ext ge;cases z2;ext af;rw[<-e];ext dg)
   |(ext fl;ext gg;cases z2;ext af;rw[<-e];ext dg)
   |(ext fk;ext gf;cases z2;ext af;rw[<-e];ext dg)
   |(ext fj;ext af;ext dF)
   |skip
  case tup.tup us ws=>
   ext aE;let⟨a',oV,ea,hb,rb⟩:=ą3;cases ea;have:=I.p9 ha hb;ext r;exact lst us ws vs b ra rb e
  case loc.loc i j=>
   ext t;ext ks;cases z:ar st i with
   |none=>ext ah;ext g
   |some us=>
    cases z2:ar st j with
    |none=>rw[z,z2]at e;ext g
    |some ws=>
     rw[z,z2]at e;let⟨vs,s1,rv⟩:=a_ sr z ha;let⟨oV,s2,T3⟩:=a_ sr z2 hb;have:=I.oK s1 s2;ext r;exact lst us ws vs b rv T3 e
  all_goals (exfalso;first
   |(ext fi;first|ext db|ext da|ext cZ|ext cK|ext cP)
   |(ext fl;first|ext cY|ext da|ext cZ|ext cK|ext cP)
   |(ext fk;first|ext cY|ext db|ext cZ|ext cK|ext cP)
   |(ext fj;first|ext cY|ext db|ext da|ext cK|ext cP)
   |(let⟨_,_,z1,_⟩:=ċQ;ext hf)
   |(let⟨_,z1,_⟩:=r1.cY;ext hf)
   |skip)
  case tup.loc us j=>
   ext aE;ext ks;cases z:ar st j with
   |none=>ext ah;ext g
   |some sG=>
    let⟨ws,hw,_⟩:=a_ sr z hb;let⟨_,_,p1,_⟩:=ø' ha;ext hP
  case loc.tup i us=>
   ext t;let⟨a',vs,ea,hb,rb⟩:=ą3;cases ea;cases z:ar st i with
   |none=>ext ah;ext g
   |some sG=>
    let⟨ws,hw,_⟩:=a_ sr z ha;let⟨_,_,p1,_⟩:=ø' hb;ext hP
  all_goals (cases z:ar st _<;>rw[z]at e<;>cases e)
def J8(X:Cx)[50](s:Vh):Vw->au->Ģb
 |Ŷ,_,v=>∃a aE vs,úT/\Ć9 a Ĵk/\ĉG/\ćJ
 |ÿa,_,v=>∃a aE vs,úT/\ăB a Ĵk/\ĉG/\ćJ
 |.se,u,v=>(u=.cq/\v=ė)\/(∃b,u=Ś/\v=ċY)\/(∃i t,u=ĝ/\v=ġP)\/(∃z t,u=ý6/\v=.str z t)
def seen[0][142][245]{v:Vg}{k:Vw}(r:ĀE)(q:úh)(h:ēZ=ō):J8 X O H s k u v:=by
 cases u with
 |cq=>ext e;have:=r.j0;ext r;exact .inl (rfl,q)
 |bl b=>ext e;have:=r.vZ;ext r;exact .inr (.inl (b,rfl,q))
 |int i=>ext e;have:=r.bK;ext r;let⟨t,q⟩:=q;exact .inr (.inr (.inl (i,t,rfl,q)))
 |str z=>ext e;have:=r.kH;ext r;let⟨t,q⟩:=q;exact .inr (.inr (.inr (z,t,rfl,q)))
 |tup us=>
  ext b;ext e;ext cU;ext lj;ext a;exact(a,aE,vs,q,p1,r1,ra)
 |loc n=>
  ext b;ext bS;ext a;cases z:ſ with
  |none=>ext nU;ext e
  |some us=>
   ext b;ext nU;ext e;let⟨vs,hs,rv⟩:=a_ sr z ha;ext eY;ext a;exact(a,aE,vs,q,đ5,r1,rv)
 |exc c=>ext e
 |fn k c=>ext e
 |mt us=>ext e
def J9{f:Ā0}[228][229]{cP:Vc}[1](e:ďx)(ra:aZ X.K O H us xs)(rb:aZ X.K O H ws ys)(va:āl)(vb:ba ys cP)(ih:∀u w x y vu vw c,ĀE->bh x vu->ďt->bh y vw->f u w=ň->þ3 A s vu vw c):
  ∀j(h1:j<ùp)(h2:j<Āj),þ3 A s ĺ[j] ă8[j] (eqJ f us ws j):=by
 intro j h1 h2;ext b;ext ef;simp only[Ľ]at h1 h2;have e1:ĔO=some us[j]:=Ą4;have e2:ws[j]?=some ws[j]:=Ą4;let⟨x,hx,rx⟩:=ra.get e1;let⟨y,hy,ry⟩:=rb.get e2;let⟨u,hu,ru⟩:=va.get hx;let⟨v,hv,rv⟩:=vb.get hy;have q1:ĺ[j]=u:=by let⟨_,e⟩:=ùj hu;ext dN
 have q2:ă8[j]=v:=by let⟨_,e⟩:=ùj hv;ext dN
 let⟨c,hc⟩:=EJ e j _ _ e1 e2;ext a;rw[q1,q2];unfold eqJ;rw[e1,e2];ext d;rw[hc];exact ih _ _ _ _ _ _ c rx ru ry rv hc
def in1_units(A:Vj):A.in1.units=ýk+1:=ĊL
def T4[0][142][7](ih:∀u w x y vu vw c,ĀE->bh x vu->ďt->bh y vw->ĝT=ň->þ3 úZ s vu vw c)[164][256][118]{v1 v2:Vg}[1](r1:ĀE)(q1:bh x v1)(r2:ďt)(q2:bh y v2)(e:i? ÿY st u w=ġ):SeqAt.RcAt A s v1 v2 b/\SeqAt.RcNeAt A s v1 v2 (!b):=by
 ext cc;cases z1:ēZ with
 |none=>rw[z1]at e;ext g
 |some k1=>
  cases z2:ģ9 with
  |none=>ext kL
  |some k2=>
   rw[z1,z2]at e;ext iu;cases k1 with
   |tup us=>
    ext cM;cases k2 with
    |tup ws=>
     ext cI;ext kW;ext ef;have hb:((û2 (ņn)).all (eqJ ńD us ws)&&Ģ2)=b:=by
      ext nK
      .rw[show ņn=ĉ by ext gw;ext c,uK e hl,show(Ģ2)=true by simp only[Ľ,beq_iff_eq];ext c,ć9]
      .rw[show(Ģ2)=false by simp only[Ľ,beq_eq_false_iff_ne];ext c,ĀB];exact(uJ e hl).symm
     have g1:=ĸi p1 p2 hu el;have g2:=SeqAt.RcNeAt.tuples p1 p2 hu el;rw[hb]at g1 g2;exact ġw
    |lst ws=>
     ext cI;ext g;exact(SeqAt.RcAt.tuple_list p1 p2 hu,SeqAt.RcNeAt.tuple_list p1 p2 hu)
    |se=>
     ext cu
     .exact(SeqAt.RcAt.tuple_none p1 hu,SeqAt.RcNeAt.tuple_none p1 hu)
     .exact(SeqAt.RcAt.tuple_bool _ p1 hu,SeqAt.RcNeAt.tuple_bool _ p1 hu)
     .exact(SeqAt.RcAt.tuple_int _ _ p1 hu,SeqAt.RcNeAt.tuple_int _ _ p1 hu)
     .exact(SeqAt.RcAt.tuple_str _ _ p1 hu,SeqAt.RcNeAt.tuple_str _ _ p1 hu)
   |lst us=>
    ext cM;cases k2 with
    |tup ws=>
     ext cI;ext g;exact(SeqAt.RcAt.list_tuple p1 p2 hu,SeqAt.RcNeAt.list_tuple p1 p2 hu)
    |lst ws=>
     ext cI;ext ef;ext nK
     .have hs:ùp=Āj:=by ext gw;ext c
      ext kW;have g1:=SeqAt.RcAt.lists p1 p2 hs hu el;have g2:=SeqAt.RcNeAt.lists p1 p2 hs hu el;rw[show ùp=ĉ by ext gw;ext c,uK e hl]at g1 g2;exact ġw
     .have hs:(ùp !=Āj)=true:=by simp only[Ľ,bne_iff_ne];ext c
      rw[uJ e hl];exact(SeqAt.RcAt.lists_lengths p1 p2 hs hu,SeqAt.RcNeAt.lists_lengths p1 p2 hs hu)
    |se=>
     ext cu
     .exact(SeqAt.RcAt.list_none p1 hu,SeqAt.RcNeAt.list_none p1 hu)
     .exact(SeqAt.RcAt.list_bool _ p1 hu,SeqAt.RcNeAt.list_bool _ p1 hu)
     .exact(SeqAt.RcAt.list_int _ _ p1 hu,SeqAt.RcNeAt.list_int _ _ p1 hu)
     .exact(SeqAt.RcAt.list_str _ _ p1 hu,SeqAt.RcNeAt.list_str _ _ p1 hu)
   |se=>
    cases k2 with
    |tup ws=>
     ext cs
     .exact(SeqAt.RcAt.none_tuple p2 hu,SeqAt.RcNeAt.none_tuple p2 hu)
     .exact(SeqAt.RcAt.bool_tuple _ p2 hu,SeqAt.RcNeAt.bool_tuple _ p2 hu)
     .exact(SeqAt.RcAt.int_tuple _ _ p2 hu,SeqAt.RcNeAt.int_tuple _ _ p2 hu)
     .exact(SeqAt.RcAt.str_tuple _ _ p2 hu,SeqAt.RcNeAt.str_tuple _ _ p2 hu)
    |lst ws=>
     ext cs
     .exact(SeqAt.RcAt.none_list p2 hu,SeqAt.RcNeAt.none_list p2 hu)
     .exact(SeqAt.RcAt.bool_list _ p2 hu,SeqAt.RcNeAt.bool_list _ p2 hu)
     .exact(SeqAt.RcAt.int_list _ _ p2 hu,SeqAt.RcNeAt.int_list _ _ p2 hu)
     .exact(SeqAt.RcAt.str_list _ _ p2 hu,SeqAt.RcNeAt.str_list _ _ p2 hu)
    |se=>
     ext af;ext l;ext gY
     .exact(SeqAt.RcAt.none_none,SeqAt.RcNeAt.none_none)
     .exact(SeqAt.RcAt.none_bool _,SeqAt.RcNeAt.none_bool _)
     .exact(SeqAt.RcAt.none_int _ _,SeqAt.RcNeAt.none_int _ _)
     .exact(SeqAt.RcAt.none_str _ _,SeqAt.RcNeAt.none_str _ _)
     .exact(SeqAt.RcAt.bool_none _,SeqAt.RcNeAt.bool_none _)
     .exact(SeqAt.RcAt.bool_bool _ _,SeqAt.RcNeAt.bool_bool _ _)
     .exact(SeqAt.RcAt.bool_int _ _ _,SeqAt.RcNeAt.bool_int _ _ _)
     .exact(SeqAt.RcAt.bool_str _ _ _,SeqAt.RcNeAt.bool_str _ _ _)
     .exact(SeqAt.RcAt.int_none _ _,SeqAt.RcNeAt.int_none _ _)
     .exact(SeqAt.RcAt.int_bool _ _ _,SeqAt.RcNeAt.int_bool _ _ _)
     .exact(SeqAt.RcAt.int_int _ _ _ _,SeqAt.RcNeAt.int_int _ _ _ _)
     .exact(SeqAt.RcAt.int_str _ _ _ _,SeqAt.RcNeAt.int_str _ _ _ _)
     .exact(SeqAt.RcAt.str_none _ _,SeqAt.RcNeAt.str_none _ _)
     .exact(SeqAt.RcAt.str_bool _ _ _,SeqAt.RcNeAt.str_bool _ _ _)
     .exact(SeqAt.RcAt.str_int _ _ _ _,SeqAt.RcNeAt.str_int _ _ _ _)
     .exact(SeqAt.RcAt.str_str _ _ _ _,SeqAt.RcNeAt.str_str _ _ _ _)
def OB[256]{v1 v2:Vg}(s1:J8 X O H s .se u v1)(s2:J8 X O H s .se w v2):þ3 A s v1 v2 (TZ u w):=by
 ext gY
 .ext dh
 .exact ĳS _
 .exact ĴO _ _
 .exact ĴP _ _
 .exact ĳR _
 .exact ĳQ _ _
 .exact ĴK _ _ _
 .exact ĴL _ _ _
 .exact ĴN _ _
 .exact ĴM _ _ _
 .ext ot
 .exact ęn _ _ _ _
 .exact ĴR _ _
 .exact ĴQ _ _ _
 .exact ęo _ _ _ _
 .exact Ķ9 _ _ _ _
theorem C9[0][142]:∀[7](A:Vj),ýk+n<cLine->∀(u w:au)(x y:V)(v1 v2:Vg)[10],ĀE->bh x v1->ďt->bh y v2->ĝT=ġ->ļx
 |0,_,_,_,_,_,_,_,_,_,_,_,_,_,e=>üh
 |n+1,A,hu,u,w,x,y,v1,v2,b,r1,q1,r2,q2,e=>by
  have rc:=(T4 I sr n (λu w x y vu vw c a1 a2 a3 a4 a5=>C9 I sr n úZ ĭU u w x y vu vw c a1 a2 a3 a4 a5) ø r1 q1 r2 q2 e).1;have refs:∀a a2,v1=Ņ->v2=.ref a2->ļx:=by
   intro a a2 e1 e2;subst e1 e2;by_cases hn:a=a2
   .subst hn;have hx:x=y:=q1.inj q2;subst hx;rw[EL I sr ÿY u w x b r1 r2 e];ext dh
   .exact Ķ8 hn rc
  cases z1:ēZ with
  |none=>ext cc;rw[z1]at e;ext g
  |some k1=>
   cases z2:ģ9 with
   |none=>ext cc;ext kL
   |some k2=>
    ext iu;ext cc;rw[z1,z2]at e;cases k1 with
    |tup us=>
     ext cM;cases k2 with
     |tup ws=>ext cw
     |lst ws=>ext cw
     |se=>
      ext cu
      .exact SeqAt.EqAt.tuple_none p1 ø
      .exact SeqAt.EqAt.tuple_bool _ p1 ø
      .exact SeqAt.EqAt.tuple_int _ _ p1 ø
      .exact SeqAt.EqAt.tuple_str _ _ p1 ø
    |lst us=>
     ext cM;cases k2 with
     |tup ws=>ext cw
     |lst ws=>ext cw
     |se=>
      ext cu
      .exact SeqAt.EqAt.list_none p1 ø
      .exact SeqAt.EqAt.list_bool _ p1 ø
      .exact SeqAt.EqAt.list_int _ _ p1 ø
      .exact SeqAt.EqAt.list_str _ _ p1 ø
    |se=>
     cases k2 with
     |tup ws=>
      ext cs
      .exact SeqAt.EqAt.none_tuple p2 ø
      .exact SeqAt.EqAt.bool_tuple _ p2 ø
      .exact SeqAt.EqAt.int_tuple _ _ p2 ø
      .exact SeqAt.EqAt.str_tuple _ _ p2 ø
     |lst ws=>
      ext cs
      .exact SeqAt.EqAt.none_list p2 ø
      .exact SeqAt.EqAt.bool_list _ p2 ø
      .exact SeqAt.EqAt.int_list _ _ p2 ø
      .exact SeqAt.EqAt.str_list _ _ p2 ø
     |se=>
      ext af;ext l;exact OB s1 s2
def jc:F2:=(λu w st=>match Ńw with
 |ġ=>Ğ1
 |none=>.bad)
def gC:F2:=(λu w st=>match Ńw with
 |ġ=>.ok ĝa st
 |none=>.bad)
def J_[39]:dE X (compareOp .Eq) (rM ā E jc):=by
 ext F;ext b;ext ka;unfold jc at h;ext a;ext f
 .rename_i b e;exact ĥN.1 Đ X.w X.xe ø3 (Ś,H,I,rfl,ù3)
 ext h
def J![39]:dE X (compareOp .NotEq) (rM ā E gC):=by
 ext F;ext b;ext ka;unfold gC at h;ext a;ext f
 .rename_i b e;exact ĥN.2 Đ X.w X.xe ø3 (.bl (!b),H,I,rfl,ù3)
 ext h
def Q_[2]:au->łT
 |Ŷ=>đ
 |ąj=>đ
 |Ġ=>ſ
 |_=>none
def Q![290]:F2:=(λu w st=>match Q_ st w with
 |đ=>if ĝR/\ĺQ then .ok (.bl (if neg then ! ĳ6 else ĳ6)) st else .bad
 |none=>.bad)
def oW{K:Va}[256][118](f1:ĝR)(f2:flat w=true)(r1:Ĉu)(r2:Rl K O H w y):đZ/\Ġ1/\Nb x y=TZ u w:=by
 cases u<;>(try cases f1)<;>cases w<;>(try cases f2)<;>
  (first|(ext fi)|(ext fl)|(ext fk)|(ext fj))<;>
  (first|(ext ge;subst z2)|(ext gg;subst z2)|(ext gf;subst z2)|(ext oA;subst z2))<;>exact Ļw
theorem oX{K:Va}[245](f:ĝR)(r:Ĉu):∀[6][17],ĺQ->ū->vs.all kQ=true/\inV x vs=us.any ņ7
 |[],vs,_,h=>by rw[h.dN];exact ÿe
 |ċT,vs,hf,h=>by ext b;let⟨v,r',rfl,h2,h3⟩:=h.bA;rw[Ĉe,úx]at hf;let⟨a,b,c⟩:=oW hf.1 f h2 r;let⟨d,e⟩:=oX f r hf.2 h3;ext a;refine(by rw[Ĉe,a,d];rfl,?_);show(Nb v x || inV x r')=_;rw[c,e];rfl
def OC{neg:Bool}[118]{H:Hp}{Q:VK}(h:rM ā E (Q! neg) x y H Q):rIn X.K neg x y H Q:=by
 ext b;let⟨O,st,u,w,sr,r1,r2,h⟩:=h;unfold Q! at h;ext a;ext f
 .rename_i us e;ext f
  .ext x;cases w with
   |tup ws=>
    ext b;ext g;let⟨a,vs,rfl,ha,ra⟩:=ą3;ext eF;ext a;ext hQ
   |mt ws=>
    ext b;ext g;let⟨a,vs,rfl,ha,ra⟩:=r2.mt_;ext eF;ext a;ext hQ
   |loc n=>
    ext b;ext mk;let⟨vs,hs,ra⟩:=a_ sr e ha;ext eF;ext a;refine(a,vs,rfl,ģi,į2,q1,?_);rw[q2];ext bG
   |_=>ext g
  ext h
 ext h
def J?:dE X ę5 (rM ā E ĝd):=ùf GQ λ_ _ _ _ h=>OC h
def isV[290]:F2
 |.cq,.cq,st=>.ok (.bl (!neg)) st
 |ąM,Ś,st=>.ok (.bl (if neg then a !=b else a==b)) st
 |üE,.cq,st=>ćD
 |úU,.cq,st=>ćD
 |ÿM,.cq,st=>ćD
 |ÿW,.cq,st=>ćD
 |.loc _,.cq,st=>ćD
 |_,_,_=>.bad
def Kc:dE X ę6 (λx y H Q=>∃a b,x=ąM/\y=Ś/\Q (.bl (a==b)) H):=by intro ak s Y H x y v u Q I rx ry aP;ext b;let⟨a,b,rfl,rfl,q⟩:=aP;ext a;ext U;ext aX;exact is_bool ķ3
def Ke:dE X ę6 (rM ā E Ŀc):=by
 refine ùf (ÿ2 Sq Kc) ?_;ext H;ext b;ext G;ext a;ext cS
 case bl.bl a b=>exact .inr (a,b,ąJ,r2.vZ,ù3)
 case cq.cq=>exact .inl (ą4,by rw[r1.j0];ext bG)
 case int.cq i=>exact .inl (ą4,by rw[ùK];ext bG)
 case bl.cq i=>exact .inl (ą4,by rw[ąJ];ext bG)
 case str.cq i=>exact .inl (ą4,by rw[r1.kH];ext bG)
 case tup.cq i=>let⟨a,vs,rfl,_⟩:=ċQ;exact ĹS
 case loc.cq i=>let⟨a,rfl,_⟩:=r1.cY;exact ĹS
open e
def aQ:F2
 |Ŷ,ĝ,st=>match ģ8 with
  |Ĥ=>ù9
  |none=>.bad
 |Ġ,ĝ,st=>match ſ with
  |đ=>match ģ8 with
   |Ĥ=>ù9
   |none=>.bad
  |none=>.bad
 |ý6,ĝ,st=>if Ďh then(match ĸR with
   |ň=>.ok (Ěu) st
   |none=>.bad)else .bad
 |_,_,_=>.bad
def aZ.um{K:Va}[6][17][29]{u:au}(r:ū)(h:ģ8=Ę):∃v,ÿU vs i=Ĥ/\úv:=by
 unfold ÿU at h⊢;rw[<-úb];cases z:QY ĉ i with
 |none=>ext v
 |some j=>
  ext aC;let⟨v,h1,h2⟩:=r.get (h);exact(v,h1,h2)
def aej:Ct X (rM ā E aQ):=by
 refine Ct.imp (Ct.or NR (Ct.or qc SG)) ?_;ext H;ext b;ext G;ext a;ext cS
 case tup.int us i=>
  ext gy;ext I;ext f
  .rename_i v e;ext b;ext aE;let⟨z,h1,h2⟩:=ra.um e;ext a;exact .inr (.inl (a,vs,i,z,rfl,ùL,ha,h1,ĸH))
  ext h
 case loc.int n i=>
  ext gy;ext I;ext f
  .rename_i us e;ext f
   .rename_i v e';ext b;ext t;ext bh;let⟨z,h1,h2⟩:=rv.um e';ext a;exact .inl (a,vs,i,z,rfl,ùL,hs,h1,ĸH)
   ext h
  ext h
 case str.int z i=>
  ext gy;ext I;ext f
  .ext x;ext f
   .ext gI;exact .inr (.inr (z,i,c,r1.kH,ùL,hz,e,ĵM))
   ext h
  ext h
def c7:FN
 |ąP,st=>Ďs
 |øg,st=>match ſ with
  |đ=>Ďs
  |none=>.bad
 |[ý6],st=>if Ďh then .ok (ěN) st else .bad
 |_,_=>.bad
def Hc:aW X ăL (cM ā E c7):=by
 refine ùe (aW.or yJ yK) ?_;ext S;ext b;ext P;ext a
 match us,r,h with
 |[],_,h=>ext u
 |[ĉZ],r,h=>
  ext b;ext z;ext aE;ext a;refine .inl (a,vs,rfl,ģj,?_);rw[<-Ąv];exact ùc
 |øg,r,h=>
  ext b;ext z;ext t;unfold c7 at h;ext I;ext a;ext f
  .ext aI;ext b;ext bh;ext a;refine .inl (a,vs,rfl,ģi,?_);rw[<-üe];exact ùc
  ext h
 |[ý6],r,h=>
  ext b;ext z;unfold c7 at h;ext I;ext a;ext f
  .ext x;exact .inr (z,by rw[r1.kH],hz,ùc)
  ext h
 |[.cq],_,h=>ext u
 |[úU],_,h=>ext u
 |[üE],_,h=>ext u
 |[Ĕm],_,h=>ext u
 |[ĉW],_,h=>ext u
 |[.mt _],_,h=>ext u
 |x::y::r,_,h=>cases x<;>exact ĊO
def C_:FN
 |ċu,st=>łz
 |_,_=>.bad
def Hd:aW X ĿA (cM ā E C_):=by
 refine ùe Jd ?_;ext S;ext b;ext P;unfold C_ at h;ext a;ext f
 .rename_i i;ext b;ext z;ext a;exact(i,by rw[ùK],ùc)
 ext h
def n_:FN
 |ąP,st=>Ğ2
 |øg,st=>match ſ with
  |đ=>Ğ2
  |none=>.bad
 |_,_=>.bad
def He:aW X ąI (cM ā E n_):=by
 refine ùe v? ?_;ext S;ext b;ext P;unfold n_ at h;ext a;ext f
 .ext dO;ext b;ext z;ext aE;ext a;exact(a,vs,rfl,.inr (ha,ĸG))
 .ext ag;ext b;ext z;ext t;ext a;ext f
  .ext aI;ext b;ext bh;ext a;refine(a,vs,rfl,.inl (hs,ğM));have s:=b7 (o:=ĒH) hl;exact h O _ _ ýw (ēX s) (ûM bg (øw ýw _ _ rv))
  ext h
 ext h
def kI:FN
 |ąP,st=>Ņu
 |øg,st=>match ſ with
  |đ=>Ņu
  |none=>.bad
 |_,_=>.bad
def Hf:aW X ąC (cM ā E kI):=by
 refine ùe yL ?_;ext S;ext b;ext P;unfold kI at h;ext a;ext f
 .ext dO;ext b;ext z;ext aE;ext a;refine(a,vs,rfl,ģj,ğM);let⟨k1,k2,k3⟩:=hJ sr ra hl;ext ay
 .ext ag;ext b;ext z;ext t;ext a;ext f
  .ext aI;ext bh;refine(a,vs,rfl,ģi,ğM);let⟨k1,k2,k3⟩:=hJ sr rv hl;ext ay
  ext h
 ext h
def nI:ý->Option (List Bool)
 |[]=>ûC
 |Ś::r=>(nI r).map (b :: ·)
 |_=>none
theorem xF{K:Va}{O:Ve}{H:Hp}:∀[6]{bs:List Bool}[17]{aE:Vc},ŀp->ū->ĉG->LSm.BoolsAre aE bs
 |[],bs,vs,aE,h,r,v=>by ext e;have:=r.dN;ext r;cases v;ext am
 |ı,bs,vs,aE,h,r,v=>by
  cases u with
  |bl b=>
   simp only[nI]at h;cases z:nI us with
   |none=>ext v
   |some bs'=>
    ext v;let⟨x,r',rfl,h2,h3⟩:=r.bA;have:=h2.vZ;ext r;cases v with
    |cons q1 q2=>
     cases q1;exact Ċ b (xF z h3 q2)
  |_=>ext e
def uL[26]:Ĥ6:=by
 ext bg;ext b;let⟨a,O,us,vs,bs,rfl,hs,rv,hb,q⟩:=aP;ext cG;ext eY;have B:=xF hb rv r1;have hl:=đ5;ext a;have oQ:a<ü:=by let⟨_,e,_⟩:=hl;ext J
 refine call_all_walk ĭW;refine(ü,[ü,a],[ü],ùp,_,_,ıi,rfl,Walks.list (A:=X.A.in1) hh _ a ĉu ĺ,
  ķ6,λi v s' Q' E' hP hQ=>?_,ľt)
 .ext b;let⟨b,e,rfl⟩:=B.get i v (by simpa using hP);simp only[e,Option.getD_some]at hQ;ext a;exact wpAny_truthy_bool hQ
 .have e:((û2 ùp).all ıi)=bs.all id:=by rw[Ľ,Ċg];exact LSm.range_all bs
  rw[e];exact(úU,H,ÿx (LSm.kept_iter hk),rfl,q)
def C!:FN
 |øg,st=>match ſ with
  |đ=>match nI us with
   |some bs=>.ok Ĵh st
   |none=>.bad
  |none=>.bad
 |_,_=>.bad
def OD(hc:Ĥ6):ĬC:=by
 refine ùe hc ?_;ext S;ext b;ext P;unfold C! at h;ext a;ext f
 .ext ag;ext b;ext z;ext t;ext a;ext f
  .ext aI;ext f
   .rename_i bs hb;ext b;ext bh;ext a;exact(a,O,ws,vs,bs,rfl,hs,rv,hb,ù3)
   ext h
  ext h
 ext h
def Hg[26]:ĬC:=OD (uL hh)
def kindOf[2]:au->Option String
 |.cq=>some "NoneType"
 |úU=>some "bool"
 |üE=>some "int"
 |ÿM=>some "str"
 |ÿW=>some "tuple"
 |Ġ=>match Š with
  |ě8=>ņC
  |some (.Tt _)=>ņC
  |ŀz=>none
  |ĜZ=>ņB
  |Ĝ0=>ņB
  |_=>none
 |_=>none
def T5[136][2](v:au):Ăn:=((ĚG).map λk=>Įi)
def C?[136](m:ME):ME:=(λZ st=>ø4 λv ay=>match T5 T ay v with
 |ġ=>.ok ùJ ay
 |none=>.bad)
def Hh(K:Va)[136]:Prop:=(∀k∈ħl,ù_ K ġK Ą_=some (Įi))
def Dc[8][475]:k∈ħl:=by
 ext om;ext f
 all_goals first
  |(ext e;decide)
  |(split at h<;>first|(ext e;decide)|ext e)
  |ext e
def Kf{s:Vh}{E:U!}{c:Vg}[1][8][245]{v:Vg}{k:String}[0][142](r:ĀE)(q:úh)(hk:ļj)(e:ù_ X.K ġK c=ġ)[425]:
  wpAny Ć A (call Ă5 [v,c]) Q E s:=by
 cases u with
 |cq=>ext L;have:=r.j0;ext r;exact fA I q .cq e h
 |bl y=>ext L;have:=r.vZ;ext r;exact fA I q (.bl y) e h
 |int i=>ext L;have:=r.bK;ext r;exact fA I q ļ e h
 |str y=>ext L;have:=r.kH;ext r;exact fA I q (.str y) e h
 |tup us=>
  ext b;ext L;ext cU;ext M;let⟨aE,r1,⟨o,h1,h2,_⟩,_⟩:=ø' ha;ext a;ext iX
 |loc n=>
  ext b;ext bS;let⟨cl,hc,kc⟩:=sr.there ha;simp only[kindOf,hc]at hk;ext a;cases cl with
  |lst us=>ext eR;exact fA I q (.lst h1) e h
  |Tt us=>ext L;let⟨o,vs,h1,_⟩:=kc;exact fA I q (.jl h1) e h
  |mod us=>ext L
  |dK us=>ext eR;exact fA I q (.dK h1) e h
  |dT us=>ext eR;exact fA I q (.dT h1) e h
  |tab _ _ _ _=>ext L
  |ins _ _=>ext L
  |fd _=>ext L
 |exc c=>ext L
 |fn k c=>ext L
 |mt us=>ext L
def uM[173][4]{m:ME}{p q:Pos}(hK:Hh X.K T)(hg:ęD)(hm:ėE)(hgT:āC)(hmT:ēc)(hvT:ĎT)[181][65][38](hs:autoParam (starEach [e,ē9] Ā=Āh::Ęe) Č)(cO:autoParam (Ęe=%[false|eval (ē9) Ā]::ĚK) Č)(g!:autoParam ((backTo pos (Ęe)).any ď=false) Č):PE X (Ű (ø8 "isinstance" p) [e,ē9] [] pos) (tE X E (C? T m)):=by
 have hc:aW X Ă5 (λxs H Q=>∃y O st u k b,xs=[y,.ty T]/\Āg/\Rl X.K O H u y/\ļj/\ù_ X.K ġK Ą_=ġ/\Q ùJ H):=by intro ak s Y H xs us Q I r aP;let⟨y,O,st,u,k,b,rfl,sr,r1,h1,h2,h3⟩:=aP;let⟨v1,v2,rfl,q1,q2⟩:=vals2 r;cases q2;exact Kf I sr r1 q1 h1 h2 λtk=>(Ś,H,I.tok tk,rfl,h3)
 refine İ (oM hc hg hm Ė6 (g_ he (g_ (Eo (v:=.ty T) hgT hmT hvT rfl hn hd) p! cO) hs) ø ø hs g!) ?_;intro Y H Q oH;ext b;let⟨Z,O,st,rs,sr,h⟩:=oH;ext a;ext y;cases z:kindOf aK u with
 |none=>ext nH;ext s
 |some k=>
  ext nH;exact(x,bv,aK,u,k,_,rfl,bG,r1,z,hK k (Dc z),dO bG h1)
def Kg{K:Va}:Hh K "int":=Ćb
def Hi{K:Va}:Hh K "bool":=Ćb
def Dd{K:Va}:Hh K "tuple":=Ćb
def Hj{K:Va}:Hh K "list":=Ćb
def Kh{K:Va}:Hh K "str":=Ćb
abbrev AS:=au->ĻT
def az[5]:AS:=(λv Z=>some ćP)
def xG:ĄY->ý->ĻT
 |[],[],Z=>some Z
 |a::as,ċS,Z=>(a v Z).bind λbn=>xG as vs bn
 |_,_,_=>none
def hU(l:ĄY):AS:=(λv Z=>match v with
 |ĒH=>xG l vs Z
 |_=>none)
def tA(W:Wo)(a:AS):TG:=(λv Y H Q=>∃Z O u bn,ýt/\ć1/\ċG=ĉJ/\ĭR)
def tAs(W:Wo)(l:ĄY):Nw:=(λvs Y H Q=>∃Z O us bn,ýt/\Ěh/\ŀJ/\ĭR)
def CC.imp{e:ûr}{t t':Nw}(h:CC X e t)[428]:CC X e t':=ĦZ
def OE[5][4][126][310][119]:PG X ĀL (tA ā (az i)):=by refine PG.imp (Nx hN hi hx hf) ?_;intro v Y H Q aP;ext b;ext kD;ext g;ext a;exact q _ (rs.set i r)
def OF:CC X [] (tAs ā []):=by
 refine CC.imp Ny ?_;ext oB;ext b;ext kq;ext a;cases us with
 |nil=>ext g;exact(r.dN,q Y rs)
 |cons=>ext g
def Ki{a:AS}{as:ĄY}(h1:PG X e Ł5)(h2:CC X es (tAs ā as))[397]:CC X ŵ (tAs ā (a::as)):=by
 refine CC.imp (I_ h1 h2 hs) ?_;ext oB;ext b;ext kq;ext a;cases us with
 |nil=>ext g
 |cons u us=>
  ext b;let⟨v,r',rfl,ru,rr⟩:=r.bA;unfold xG at e;ext a;cases z:ċG with
  |none=>ext ah;ext g
  |some pc=>
   ext ah;exact(v,r',rfl,Z,O,u,pc,rs,ru,z,λCh rs1=>(pc,O,us,bn,rs1,rr,e,q))
def T6{l:ĄY}[42](h:CC X es (tAs ā l))(hn:autoParam (Ľp=Ÿ) Č)[416]:PG X ęd (tA ā (hU l)):=by
 refine PG.imp (R? hc h hn CD) ?_;intro v Y H Q aP;ext b;ext kD;ext a;cases u with
 |tup us=>
  ext b;ext cU;have len:∀(l:ĄY)[37][14],ŀJ->ĉ=Ÿ:=by
   intro l
   induction l with
   |nil=>intro us Z e;cases us with|nil=>rfl|cons=>ext g
   |cons a l ih=>
    intro us Z e;cases us with
    |nil=>ext g
    |cons u us=>
     unfold xG at e;cases z:ċG with
     |none=>ext ah;ext g
     |some pc=>ext ah;rw[ă,ă,ih us pc e]
  ext a;exact(a,vs,rfl,ha,by rw[<-Ąv];exact len _ _ _ e,Z,O,us,bn,rs,ra,e,q)
 |_=>ext g
def ae2(a:AS)(m:ME):MB:=(λZ st=>Ąf Z λv ay=>match a v Z with
 |ĉJ=>Ŧ
 |none=>.bad)
abbrev Itm:=ý ×(ør)
abbrev MI:=Env->ai->āF
def ItR(K:Va)(ρ0:Ve)(H0:Hp)(p:Itm)(J:It):Prop:=(
 ∀O st H,aD ρ0 H0 O H->þp->p.2 st->∀i:Nat,
  (∀u,p.1[i]?=Ę->ĄD/\∀x H',ćZ->ĝP/\ł3/\Rl K O H' u x)/\(p.1.length<=i->ĈU))
abbrev tI[104](m:MI):TI:=tG ā E (ItR X.K) m
section
variable[30]
def PI.imp{it:Expr}{t t':TI}(h:PI X tg it t)[156]:PI X tg it t':=λak s Y H R I q=>h ak s Y H R I (k Y H R q)
def T7{l:Expr}{tl:TE}(hl:PE X l tl):PI X tg l (λY H R=>tl Y H λx H1=>∃a,øo/\(((∃xs,kN X.K H1 a xs)/\R (Itl X.K a) H1)\/((∃xs,mM X.K H1 a xs)/\R (Itt X.K a) H1))):=by
 ext bn;refine de (hl ak s Y H _ I h) Č2;ext b;let⟨a,e,q⟩:=q1;ext l;ext av;ext a;rcases q with⟨⟨xs,hq⟩,q⟩|⟨⟨xs,hq⟩,q⟩
 .ext b;let⟨aE,rv,p,hz⟩:=I1.list hq;ext a;refine wpAny_pyIter_list āo ?_;refine(Œ,[Œ],_,_,H1,rfl,Ĥm,GG a _,Ār,üd,q);ext oy
  ext cC
 .ext b;let⟨aE,rv,p,hz⟩:=I1.tuple hq;ext a;refine wpAny_pyIter_tuple (p) ?_;refine(Œ,[Œ],_,_,H1,rfl,Ĥm,CG a _,Ār,üd,q);ext oy
  ext cC
def uN[2]:au->Option Itm
 |Ŷ=>some Ēo
 |ąj=>some Ēo
 |Ġ=>ĞU λus=>Ġa
 |_=>none
def dy(m:ME):MI:=(λZ st=>ø4 λv ay=>match uN ay v with
 |some p=>.ok p ay
 |none=>.bad)
def Kj{K:Va}[3][6]{a:Vi}[180](hsq:∀{bi:Ve}{ay:ai}[200],Ħp):
  ItR K O H Ġa ńl:=by
 ext bR;ext b;let⟨vs,hs,rv⟩:=hsq sr g ĝq;ext a;refine(ď',λhi=>(vs,hs,ĲN));ext b;ext lp;ext a;refine((vs,v,hs,hv),Ğj);ext b;ext oE;have e:=(y vs hs).ĀY hv;ext g;ext a;exact ĿG
def EM{K:Va}[6]{a:Vi}[17](ha:ĝW)(ra:ū):ItR K O H Ēo ńm:=by ext bR;have ha':mM K H' a vs:=e.sqT ha;have rv:=Ń0;refine(ď',λhi=>(vs,ha',ĲN));ext b;ext lp;ext a;refine((vs,v,ha',hv),Ğj);ext b;ext oE;have e:=(y vs ha').ĀY hv;ext g;ext a;exact ĿG
def T8{l:Expr}{m:ME}(hl:PE X l ĂC):PI X tg l (tI X E (dy m)):=by
 refine ąm (T7 hl) ?_;ext ca;ext b;ext k;ext a;ext y;cases u with
 |tup us=>
  ext b;ext aE;ext a;exact ħh
 |mt us=>
  ext b;let⟨a,vs,rfl,ha,ra⟩:=r1.mt_;ext a;exact ħh
 |loc n=>
  ext b;ext t;ext a;cases z:ar aK n with
  |none=>ext nI;ext s
  |some us=>
   ext b;ext nI;let⟨vs,hs,rv⟩:=a_ bG z ha;ext a;exact(a,rfl,.inl ((vs,hs),h1 bv H1 _ Ģ bG (Kj ha ęX)))
 |_=>ext s
def dh[140][7]:ý:=(Ĝq λĄh=>ŃX)
def Hk{K:Va}[140][7]:ItR K O H (dh lo n,úq) Łx:=by
 ext bR;refine ĹL
 .have hi:i<n:=by have:=jb hu;simpa[dh]using this
  ext ji;have e:u=ŃX:=by simp only[dh,ĭ]at hu;ext iI
  ext l;exact ĹN
 .show n<=i;simpa[dh]using hi
def bZ(m:MA):MI:=(λZ st=>ø4 λvs ay=>match vs with
 |ċx=>ĦI
 |_=>.bad)
def Hl[254]{m:MA}[268][482][262]:PI X tg ĵI (tI X E (bZ m)):=by
 refine ąm (GH hg hm ha hs) ?_;rintro Y H R ⟨Z,O,st,rs,sr,h⟩;ext aD;ext Z
 .rename_i j;ext mp;ext Z
  .ext x;exact(j,by rw[rv.bK],hz.1,hz.2,h1 bv H1 _ Ģ bG (Hk 0 ă1))
  ext ac
 ext ac
def iM[2]:au->Option (Bool×Itm)
 |Ŷ=>some (false,us,úq)
 |Ġ=>ĞU λus=>(true,us,Ĩj)
 |_=>none
def kY:ý->ý->ý
 |úY,ą6=>ġW::kY xs ys
 |_,_=>[]
theorem EN:∀[284][5],(∀z,(Ąt)[i]?=ąz->∃u w,Ąb/\ws[i]?=Ċ0/\z=.tup [u,w])/\(ķ2->ĉ<=i\/ûi<=i)
 |[],_,i=>(ńa,λ_=>.inl ûH)
 |_::_,[],i=>(ńa,λ_=>.inr ûH)
 |ı,ā_,0=>(λz h=>(by ext e;exact(u,w,rfl,rfl,rfl)),λh=>(by simp[kY]at h))
 |ı,ā_,i+1=>by
  let⟨a,b⟩:=EN us ws i;refine(λz h=>a z h,λh=>?_);have h':ķ2:=by simpa[kY]using h
  rcases b h' with q|q
  .exact .inl (Āt)
  .exact .inr (Āt)
def uO[69](m:MA):MI:=(λZ st=>ø4 λvs ay=>match vs with
 |[u,w]=>match iM ay u,iM ay w with
  |ļn,ļo=>ĥ7
  |_,_=>.bad
 |_=>.bad)
def EO{K:Va}[8][245]{c:Bool}[6]{g:ør}[112](r:Ĉu)[443](hsq:∀{bi:Ve}{ay:ai}[200]{n a},Ħp):
  ∃a,øo/\∀bi ay H',ún->Ŀ5->g ay->∃vs,C6 c K H' a vs/\Ěg:=by
 cases u with
 |tup ws=>
  ext e;ext cU;exact(a,rfl,λbi ay H' e _ _=>(vs,e.sqT ha,Ń0))
 |loc n=>
  ext bS;cases z:ſ with
  |none=>ext dq;ext e
  |some ws=>
   ext dq;ext e;exact(a,rfl,λbi ay H' e s g=>hsq s g ĝq)
 |_=>ext e
def Kk[8]{u:au}{c:Bool}[6]{g:ør}[443]:g st:=by
 cases u with
 |tup ws=>ext e;exact üi
 |loc n=>
  cases z:ſ with
  |none=>ext dq;ext e
  |some ws=>ext dq;ext e;ext o
 |_=>ext e
def T_[69][143]{ea eb:Expr}{m:MA}[444](ha:PA X ēF ĚW)[389]:
  PI X ûX Īp (tI X E (uO b1 b2 m)):=by
 refine ąm (Te b1 b2 hg hm ha hs cO) ?_;ext ca;ext b;ext k;ext a;ext aD;ext Z
 .rename_i u w;ext b;let⟨x,y,rfl,rx,ry⟩:=r1.un2;ext a;ext Z
  .rename_i c1 T! g1 c2 us2 g2 z1 z2;ext Z
   .rename_i hc;ext b;let⟨rfl,rfl⟩:=hc;let⟨a,rfl,ka⟩:=EO bG rx z1 ęX;let⟨b,rfl,kb⟩:=EO bG ry z2 ęX;let⟨v1,q1,_⟩:=ka bv aK H1 Ģ bG (Kk z1);let⟨v2,q2,_⟩:=kb bv aK H1 Ģ bG (Kk z2);ext a;refine(a,b,rfl,(v1,q1),(v2,q2),ĳ2);ext mG;ext b;let⟨w1,s1,t1⟩:=ka bi ay H' e s g.1;let⟨w2,s2,t2⟩:=kb bi ay H' e s g.2;let⟨k1,k2⟩:=EN T! us2 i;ext a;refine(λz hz=>?_,λhi=>(w1,w2,s1,s2,?_))
    .ext b;let⟨u',w',e1',e2',rfl⟩:=k1 z hz;let⟨p1,p2,p3⟩:=t1.get e1';let⟨o1,o2,o3⟩:=t2.get e2';ext a;refine((w1,w2,p1,o1,s1,s2,p2,o2),ļB);ext b;let⟨pp,x1,y1,rfl,hp,rfl,f1,f2⟩:=y';have c1:=Ĺw p2;have c2:=(f2 w2 s2).ĀY o2;cases c1;cases c2;ext a;exact(Ď9,s.grow ēj,ûM bg (øw (Ď9) _ _ (Ź p3 (āE o3))))
    .rw[<-t1.length,<-t2.length];exact k2 hi
   ext ac
  ext ac
 ext ac
open e
open Classical in
def forL(g:ør)(a:AS)[175]:ý->MB
 |[],Z,st=>if g st then ÿp else .bad
 |ı,Z,st=>if g st then(match ċG with
  |Ą2=>match ĈZ with
   |Ŧ=>ıU
   |ù5=>ıU
   |ût=>Ŧ
   |øb=>øb
   |þ0=>þ0
   |.bad=>.bad
  |none=>.bad)else .bad
def fj(it:MI)(a:AS)[175]:MB:=(λZ st=>(ēR).sb Z λp ay=>forL p.2 a body p.1 Z ay)
section
variable[30]
def T?{sb:úF}{it:MI}{a:AS}[92][269][42](hi:İa)(hg:PG X tg Ł5)[447][153]:PS X (.For tg iter sb [] pos) (tS X E (fj it a body)):=by
 refine úR (Se hp hc hi hg hb hs) ?_;ext al;ext b;ext k;ext a;refine JZ Z O st rs sr h Ĭq;ext b;ext oF;ext a;refine(λi m cx H'=>m=ĉ-i/\i<=ĉ/\∃bn bi ay,ĽR/\Ķ6/\ĚB/\wS ā E bi H' D (forL g a body (āw i) bn ay),
  (ĉ,Ń,ùM,Z,bv,aK,ăp,Će,bG,h1),?_)
 intro i m cx H' oH;ext b;let⟨rfl,hi,bn,bi,ay,e',ER,ES,h'⟩:=oH;ext a;by_cases oQ:i<ĉ
 .rw[ü4 oQ]at h';ext oO;ext bp
  .ext b;rw[đU]at h';let⟨k1,k2⟩:=rJ bi ay H' e' ES vY i;let⟨go',yl⟩:=k1 _ (ħ oQ);ext a;refine .inr (go',λut H2=>i+1<=ĉ/\∃ul dl bP,ĽS/\Ķ7/\Ļ5/\wS ā E dl H2 D (forL g a body (āw Ē) ul bP),λut H2 n=>(ĉ-Ē,ø,rfl,n.1,n.2),λx H2 y=>?_);ext b;let⟨e2,m9,r2⟩:=yl x H2 y;ext a;cases z:a us[i] bn with
   |none=>rw[z]at h';exact h'.elim
   |some pc=>
    rw[z]at h';ext dw;refine(bn,bi,us[i],pc,ēw e2,r2,z,λwn rs3=>(pc,bi,ay,rs3,m9,?_));cases zb:body pc ay with
    |nx wE sE=>
     ext hm
    |ct wE sE=>
     ext hm
    |bk wE sE=>ext hK
    |rt v sE=>ext hK
    |er c wE sE=>rw[zb]at h';let⟨C,q1,q2⟩:=h';exact(C,q1,λu8 H4 e4 uP=>q2 u8 H4 Ġd uP)
    |bad=>rw[zb]at h';exact h'
  ext jV
 .have N_:i=ĉ:=ø
  subst N_;rw[Ĺ4]at h';ext oO;ext bp
  .rw[đU]at h';exact .inl (Ī0,h' bi H' cx Ģ ES ER)
  ext jV
open e
def fk(t:MT)[175]:Nat->Env->ai->Option b!
 |0,_,_=>none
 |n+1,Z,st=>match ÿo with
  |ĎI=>match ĉh with
   |Ŧ=>ĸE
   |ù5=>ĸE
   |ût=>some (Ŧ)
   |øb=>some (øb)
   |þ0=>some (þ0)
   |.bad=>some .bad
  |ăD=>some Łk
  |.err c aK=>some (.er c Z aK)
  |.bad=>some .bad
open Classical in
def j_(t:MT)[175]:MB:=(λZ st=>if h:∃n r,ĆP then h.choose_spec.choose else .bad)
theorem kZ{t:MT}[92]:∀[178][63][8]{r r':b!},ĆP->fk t body m Z st=some r'->r=r'
 |0,_,_,_,_,_,h,_=>úa
 |_+1,0,_,_,_,_,_,h=>úa
 |n+1,m+1,Z,st,r,r',h,h'=>by
  unfold fk at h h';ext f
  .rename_i aK e;rw[e]at h';ext dw;ext f
   all_goals (rename_i eb;rw[eb]at h';ext dw)
   .exact kZ h h'
   .exact kZ h h'
   all_goals (ext e;cases h';rfl)
  all_goals (ext bC;rw[e]at h';ext dw;ext e;cases h';rfl)
def xH{t:MT}[92][3][63][8]{r:b!}(h:ĆP):ěq=r:=by
 have hx:∃n r,ĆP:=(n,r,h)
 unfold j_;rw[dif_pos hx];exact kZ Į0 h
def Kl[186]{sb:úF}{t:MT}[92][269][502][447]:PS X (.While c sb [] pos) (tS X E (j_ t body)):=by
 refine úR (I! hp hc hb) ?_;ext al;ext b;ext k;unfold j_ at h;ext a;ext f
 .rename_i hx;have hr:=Į0;refine(λm cx H'=>∃bn bi ay r,ún/\Ķ6/\ĚB/\fk t body m bn ay=ýz/\wS ā E bi H' D r,(_,Z,O,st,_,ăp,rs,sr,hr,h),?_);intro m cx H' oH;ext b;let⟨bn,bi,ay,r,e',ER,ES,hw,hq⟩:=oH;ext a;cases m with
  |zero=>cases hw
  |succ m=>
   unfold fk at hw;refine(bn,bi,ay,ER,ES,?_);cases z:t bn ay with
   |ok k aK=>
    rw[z]at hw;intro bv H1 k' e1 bG ek;cases ek;cases k with
    |true=>
     dsimp only at hw;refine(λut H2=>∃ul dl bP r2,Ńa/\Ķ7/\Ļ5/\fk t body m ul bP=some r2/\wS ā E dl H2 D r2,λut H2 n=>(m,Ćf m,n),bn,bv,aK,ēw e1,bG,?_);cases zb:body bn aK with
     |nx wE sE=>
      ext hl
     |ct wE sE=>
      ext hl
     |bk wE sE=>ext hD
     |rt v sE=>ext hD
     |er c wE sE=>rw[zb]at hw;cases hw;let⟨C,q1,q2⟩:=hq;exact(C,q1,λu8 H4 e4 uP=>q2 u8 H4 Ě3 uP)
     |bad=>rw[zb]at hw;ext gj
    |false=>
     cases hw;exact hq bv H1 cx e1 bG (ēw e1)
   |err c aK=>rw[z]at hw;ext gj
   |bad=>rw[z]at hw;ext gj
 ext h
def sH[102][14]:Env:=(ŝ k none++aX.map λj=>Ĵn)
def RS.cap{W:Wo}[63][107](r:ýt)[102]:RS W O H Ċ9 ĀU:=by
 refine(by simp[sH,qi],ņ4);unfold sH at e;rcases øI i k with q|q
 .rw[øW Ęj,Č9,üx]at e;ext g
 .rw[úl Ęj,þi,ĭ]at e;cases z:Ģi with
  |none=>ext ah;ext g
  |some j=>
   ext ah;have e':Ĵn=Ę:=Ăc;have e2:Z[j]?=some āU:=by
    cases y:Z[j]? with
    |none=>rw[y]at e';cases e'
    |some w=>rw[y]at e';exact congrArg _ e'
   let⟨v,h1,h2⟩:=r.at_ j u e2;refine(v,?_,h2);unfold qi;rw[úl Ęj,þi,ĭ,z];show some (ęf)=_;rw[h1];rfl
open Classical in
def aY(g:ør)(a:AS)(c:MT)(e:ME):ý->Env->ai->ý->bR (ý)
 |[],_,st,ys=>if g st then .ok ys st else .bad
 |ı,τ,st,ys=>if g st then(match a u τ with
  |some pi=>match ģN with
   |ĎI=>match e pi aK with
    |.ok y bP=>aY g a c e us pi bP đx
    |ĒL=>.bad
    |.bad=>.bad
   |ăD=>ıP
   |ĒL=>.bad
   |.bad=>.bad
  |none=>.bad)else .bad
def b9[102](it:MI)(a:AS)(c:MT)(e:ME):ME:=(λZ st=>(ēR).bind λp aK=>
 if ĳ3 then(aY p.2 a c e p.1 Ċ9 aK []).bind λys bP=>.ok (.loc bP.length) (bP++[ēu])else .bad)
def aU:MT:=(λ_ st=>ĐC)
abbrev W0(X:Cx):Wo:=ėJ
section
variable{JM:Pos}[73]{it:MI}{a:AS}{c:MT}{e:ME}
def Df[107]{Q:VK}(h:∃Z O st,ĀD/\(∀O H,ĀD->RS ĄS O H Ċ9 ĀU)/\Āg/\wR ā E Ąe O H Q (b9 k aX it a c e Z st)):ĥF:=by
 ext b;let⟨Z,O,st,rs,cp,sr,h⟩:=h;ext a;refine JH (go Z O st rs sr h Ĭq);ext b;ext oF;have rs1:=cp _ _ ÿT;ext a;ext Z
 .ext x;refine N' ĉ hz (λi ys τ H'=>∃v6 bi ay yv,ĽR/\RS ĄS bi H' v6 τ/\ĚB/\aZ X.K bi H' yv ys/\yv.length<=i/\wR ā E Ąe bi H' Q ((aY g a c e (āw i) v6 ay yv).bind λ(zs:ý)(bP:ai)=>Ŝ (ž bP.length) (bP++[ą zs])))
   (Ęw,bv,aK,[],ăp,rs1,bG,ùH,ł,h1) ?_ ?_ ?_ ?_ ?_
  .intro i ys τ H' hi aP;ext b;let⟨v6,bi,ay,yv,e',ER,ES,ry,hl,hq⟩:=aP;ext kT;ext a;ext bp
   .exact ĨW.1
   ext cL
  .intro ys τ H' oH;ext b;let⟨v6,bi,ay,yv,e',ER,ES,ry,hl,hq⟩:=oH;ext jz;ext a;ext bp
   .exact Ī0
   ext cL
  .intro i ys τ H' yU;ext b;let⟨v6,bi,ay,yv,e',ER,ES,ry,hl,hq⟩:=yU;ext a;rw[<-ry.length];exact hl
  .intro i ys τ H' x H2 hi yV y K1 hK;ext b;let⟨v6,bi,ay,yv,e',ER,ES,ry,hl,hq⟩:=yV;ext kT;ext a;ext bp
   .ext b;rw[đU]at hq;let⟨e2,m9,r2⟩:=ĨW.2 x H2 y;ext a;cases z:a us[i] v6 with
    |none=>rw[z]at hq;ext br
    |some pi=>
     rw[z]at hq;dsimp only at hq;refine(v6,bi,us[i],pi,ēw e2,r2,z,λwn rs3=>(pi,bi,ay,rs3,m9,?_));cases zc:c pi ay with
     |ok b kG=>
      rw[zc]at hq;intro BT H3 b' e3 IL eb;cases eb;cases b with
      |true=>
       dsimp only at hq;refine(pi,BT,kG,ĝ0,IL,?_);cases ze:e pi kG with
       |ok v sE=>
        rw[ze]at hq;intro u8 H4 y4 e4 uP r4;exact hK _ _ _ (pi,u8,sE,yv++[v],(ĘE e3).trans e4,(ĝ0).mono e4,uP,(øw ĵO _ _ ry).append (āE r4),ĲQ,ē0 hq ĵO)
       |err c' sE=>rw[ze]at hq;ext br
       |bad=>rw[ze]at hq;ext br
      |false=>
       exact hK _ _ _ (pi,BT,kG,yv,ĘE e3,ĝ0,IL,øw ġl _ _ ry,ø,ē0 hq ġl)
     |err c' kG=>rw[zc]at hq;ext br
     |bad=>rw[zc]at hq;ext br
   ext cL
  .intro ys τ H' p Hm hp;ext b;let⟨v6,bi,ay,yv,e',ER,ES,ry,hl,hq⟩:=Hm;ext jz;ext a;ext bp
   .ext b;rw[đU]at hq;let⟨k1,k2,k3⟩:=hJ ES ry hp;ext a;exact hq _ _ _ k1 k2 k3
   ext cL
 ext ac
def xI[355][107]{Q:VK}(h:tE X E ĘV Y H Q):ĥF:=by
 ext b;ext dd;ext a;refine Df (Z,O,st,rs,λO H r=>?_,sr,h);have ew:wo X=W0 X:=by show Wo.mk _ _ _=_;rw[hpn]
 rw[ew]at r;exact r.cap k aX
def cX[42][355][385][153]:PE X Ăl (tE X E ĘV):=
 İ (N? hc B hi hg Tb he hs) λ_ _ _ h=>xI hpn h
def iO[5]{py:Pos}[126][42][355][385](hy:autoParam (Ďn=ûE) Č)(hx:autoParam (Loc ĀJ y) ĈL)[398][153][411]:
  PS X ĬO (tS X E (aN i ĘV)):=
 úR (_A.C5 hN hy hx hc B hi hg Tb he hsw hs hf) λ_ _ _ h=>xI hpn (A5 h)
def OG[376]:C2 ú1 [] (tG ĄS E0 RB aU):=by intro ak s' Y H' Q I q;refine N7 ak s' Y H' Q I ?_;let⟨Z,O,st,rs,sr,h⟩:=q;exact h O H' true Ģ sr rfl
def OH{cc:Expr}[376](h:PT ú1 cc čW):C2 ú1 [cc] čW:=N8 h
def Km[376]:Passes üb ú1 E0:=by intro ak Y H' s' e s2 I aP;ext b;let⟨ea,cls,H2,_,_,q⟩:=aP;ext a;exact ąw
open e
abbrev FM:=au->ĄQ
def rMt[170](f:FM):ý1:=(λx xs H Q=>∃O st u us,ýq/\ĽJ/\ĺn/\wR W E Ā' O H Q (f u us st))
def A6[2]:āk
 |Ġ=>match Š with
  |ě8=>true
  |_=>false
 |_=>false
def fM(f:FM)(o:ME)(a:MA):ME:=(λZ st=>Ļr λx aK=>if A6 aK x=true then ĺ6 λxs bP=>f x xs bP else .bad)
def bD:FM
 |Ġ,[v],st=>match Š with
  |ũ=>if ŃZ then ĵ' else .bad
  |_=>.bad
 |_,_,_=>.bad
section
variable{mo:ME}[116]{f:FM}
def Jq.imp[227]{r r':ý1}(h:Jq X id r)(k:∀x xs H Q,r' x xs H Q->ğw):Jq X id r':=λak s Y H x xs v us Q I rx rs q=>h ak s Y H x xs v us Q I rx rs (k x xs H Q q)
def ET{K:Va}[8][3]{us sG:ý}{a:Vi}{vs oV:ķ}[112][281][180](hH:H a=ćw)(r:aZ K O H sG oV):
  ł'/\SR K O (üF n (.lst sG)) ĩ8:=by
 have e:ł':=ĊI hH Ć_ ĆQ;exact(e,sr.set h rfl rfl ha hH Ć_ ĆQ (oV,bg,ĐP))
def Dg:Jq X "list.append" (rMt ā E bD):=by
 refine Jq.imp GS ?_;intro x xs H Q aP;ext b;let⟨O,st,u,us,sr,r1,r2,h⟩:=aP;unfold bD at h;ext a;ext f
 .rename_i n v;ext b;ext t;ext mq;ext a;ext f
  .ext gu;ext f
   .ext x;ext jS;refine(a,vs,y,rfl,rfl,hH,by rw[<-üe];ext aa,?_);let⟨k1,k2⟩:=ET sr hw ha hH (rv.append (āE ry));ext lK
   ext h
  ext h
 ext h
def Kn{K:Va}[8][245][112](r:Ĉu)(h:A6 st u=true):tyV K "list" x H:=by
 cases u with
 |loc n=>
  ext bS;ext kO;simp only[A6,hc]at h;cases c with
  |lst us=>let⟨vs,h1,_⟩:=kc;exact .inl (rfl,vs,kN.of h1)
  |_=>ext e
 |_=>ext e
def Ko[227](slot:Slot "list" name id)(SJ:typeOf þR=ĬH)(hm:Jq X id (rMt ā E f))[123][66][312]
  (CV:(ċ3
   && ċ5)=true:=by rfl)
  [101] [182] [270]:
  PE X ĪK (tE X E (fM f mo ms)):=by
 refine İ (abz PySem.F.plainAttrs_list slot SJ hm ho ha iC CV iD hs nW) ?_;ext p;ext b;ext k;ext a;ext y;ext Z
 .ext x;refine(Kn bG r1 hz,?_);ext hX;exact(dl,bP,u,us,m9,ĆB,r2,h2)
 ext ac
open e
def wRE(W:Wo)(R:þq)[50](Q:ÿD)(EX:EH):ûF->Prop
 |.ok u ay=>ħq
 |đF=>∃C,ĈV/\∀bi H' ea,ún->ĚA->EX Ĝ ea H'
 |.bad=>False
def wRE.mono{W:Wo}{R:þq}{Q:ÿD}{EX:EH}[205](h:wRE W R O H Q EX r)[47]:wRE W R bi H' Q EX r:=by
 cases r with
 |ok u st=>ext jk
 |err c st=>ext nP;exact(C,h1,λdl H2 ea e2 s=>h2 dl H2 ea Ă8 s)
 |bad=>ext j
def tEE(X:Cx)(m:ME):TEE:=(λY H Q EX=>∃Z O st,ĀD/\Āg/\wRE ā Ąe O H Q EX ĔZ)
def OI(W:Wo)[50][108](EX:EK):Ģk
 |ÿp=>Īk
 |úO=>ħV
 |ĒJ=>Īi
 |ĒK=>Īj
 |ă3=>∃C,ĈV/\∀bi H' cx ea,ún->ĂE->ČT->EX Ĝ ea cx H'
 |.bad=>False
def OI.mono{W:Wo}{r:b!}(h:OI W O H D EX r)[47]:OI W bi H' D EX r:=by
 cases r with
 |nx Z st=>ext ba
 |rt v st=>ext jl
 |bk Z st=>ext ba
 |ct Z st=>ext ba
 |er c Z st=>ext nP;exact(C,h1,λdl H2 ut ea e2 s r=>h2 dl H2 ut ea Ă8 s r)
 |bad=>ext j
def tSE(X:Cx)(m:MB):Ti:=(λD EX Y H=>∃Z O st,ĀD/\Āg/\OI ā O H D EX ĔZ)
def Ua(m:ăr):ăr:=(λZ st=>match üt with
 |ĄC=>ĄC
 |ĒL=>.bad
 |.bad=>.bad)
section
variable[30]{m:ME}[116]{f:FN}[4]
def Ng.imp{t t':TEE}(h:Ng X e t)(k:∀Y H Q EX,t' Y H Q EX->t Y H Q EX):Ng X e t':=λak s Y H Q EX I q=>h ak s Y H Q EX I (k Y H Q EX q)
def Oe.imp[93]{t t':Ti}(h:Oe X st t)(k:∀D EX Y H,t' D EX Y H->ğB):Oe X st t':=λak s Y H D EX I q=>h ak s Y H D EX I (k D EX Y H q)
def Kp[44](F:gN Đ X.w X.K X.mg ùb ď2 k fa fd ps Łt)[127][45](hm:ýM=Ċi)(hk:ĽI X.K ĆZ=true)(hb:ČO)(IX:ćN)[421][48]:
  ī9:=by
 refine Ng.imp (JU F hr hg hm hk hb IX ha jY he g!) ?_;intro Y H Q EX aP;ext b;ext k;ext a;ext bB;unfold ax Ua at h;cases z:ģW with
 |ok us aK=>
  ext aC;intro bv H1 vs e1 bG r1;refine(us,bv,aK,r1,bG,?_);have h':wRE ā Ąe bv H1 Q EX (f us aK):=wRE.mono h e1;revert h';cases f us aK with
  |ok u bP=>ext bv
  |err c bP=>exact λ⟨C,q1,q2⟩=>(C,q1,λdl H2 e2 s2 ea=>q2 dl H2 ea e2 s2)
  |bad=>ext bv
 |err c ay=>ext aC;ext u
 |bad=>ext aC;ext j
def Ub[107]{k:ēI}[63][8](rs:ĀD)[142](h:OI ā O H D EX ń7){Q:VK}(c:∀u aK bv H1 x,Đl->SR X.K bv aK H1->Rl X.K bv H1 u x->OI ā bv H1 D EX ğ4->Q x H1):tEE X m Y H Q ėj:=by
 ext bB;cases z:üt with
 |ok u aK=>ext aC;exact λbv H1 x e1 bG r1=>c u aK bv H1 x e1 bG r1 (OI.mono h e1)
 |err c' aK=>ext aC;let⟨C,q1,q2⟩:=h;exact(C,q1,λdl H2 ea e2 s2=>q2 dl H2 Y ea e2 s2 (rs.mono e2))
 |bad=>ext aC;ext j
def Kq(he:Ng X e (tEE X m))[260]:Oe X ďA (tSE X (bH m)):=by refine Oe.imp (JV he hs) ?_;intro D EX Y H aP;ext b;ext k;ext a;exact Ub rs sr h ħx
def OJ{s1:Stmt}{a:MB}(h:Oe X s1 ńT):G7 X [s1] ńT:=JW h
abbrev MH:=Str->MB
def ab1:MH:=(λ_ _ _=>.bad)
def uQ:b!->b!
 |úO=>úO
 |_=>.bad
def aeY[177][21](iI:MB)(rest:MH):MH:=(λc Z st=>match āv with
 |Ğ=>uQ (iI Z st)
 |Ąa=>ņw
 |none=>.bad)
def Uc[177][21][5](iI:MB)(rest:MH):MH:=(λc Z st=>match āv with
 |Ğ=>uQ (iI ĎV st)
 |Ąa=>ņw
 |none=>.bad)
def A7(kn:ür)[175](h:MH):MB:=(λZ st=>match body Z st with
 |þ0=>Īd
 |Ŧ=>Ŧ
 |øb=>øb
 |ût=>ût
 |ù5=>ù5
 |.bad=>.bad)
def OK(X:Cx)(h:MH):Of:=(λD EX cls ea Y H=>∃c C Z O st,X.mg c=ûZ/\cls=ýY/\ĀD/\Āg/\OI ā O H D EX (Ģr))
def PH.imp{t t':Of}(h:PH X hs t)(k:∀D EX cls ea Y H,t' D EX cls ea Y H->t D EX cls ea Y H):PH X hs t':=λak s Y H D EX ea cls J q=>h ak s Y H D EX ea cls J (k D EX cls ea Y H q)
def Ud:PH X [] (OK X ab1):=PH.imp To λD EX cls ea Y H q=>by ext b;let⟨c,C,Z,O,st,_,_,_,_,h⟩:=q;ext a;ext j
def Ue[68][177]:Prop:=(∀c x b C D,āv=ġ->ÿu->ě6->ĸY)
def EF.pn[131]{pn:U'}[460][51](h:EF ĞB O H u v):EF ĞA O H u v:=by
 cases u with
 |exc c=>let⟨a,oe,C,h1,h2,h3⟩:=h;exact(a,oe,C,h1,hp _ h2,h3)
 |_=>ext j
def RS.pn[131]{pn:U'}[460][63][107](h:RS ĞB O H Z Y):RS ĞA O H Z Y:=
 (h.len,λi u e=>let⟨v,h1,h2⟩:=h.at_ i u e;(v,h1,h2.pn hp))
def Ug{n:Str}[419][304][322](hs:∀ea oe,N1 oe->Ħ7)[328][38]:
  īM:=by
 refine PH.imp (Tq hN hi hl hg hm hB hs hr hd) ?_;intro D EX cls ea Y H aP;ext b;let⟨c,C',Z,O,st,h1,rfl,rs,sr,h⟩:=aP;unfold Uc at h;ext a;ext f
 .ext bC;refine(true,hS c x true C' C e h1 hm,?_);intro oe Ob;have ER:RS (wo Ćq) O H ĎV įT:=
   (RS.pn (λq hq=>Ģ5) rs).abT i (ea,oe,C',rfl,ċ,h1,Ob)
  refine(_,O,st,ER,sr,?_);revert h;cases s ĎV st with
  |rt v ay=>ext bv
  |_=>ext bU
 .ext bC;refine(false,hS c x false C' C e h1 hm,?_);exact(c,C',Z,O,st,h1,rfl,rs,sr,h)
 ext h
def ab2{n:Str}[419][304][322][488][328][38]:
  īM:=Ug hS hN hi hl hg hm hB (λea oe _=>hs ea oe) hr hd
def Known(mg:U?)(kn:ür):Prop:=(∀c,ĒE->∃C,ÿu)
def Kr{kn:ür}[462][107](q:tSE X ľR D EX Y H):tSE X b D (λcls ea cx H'=>OK X h D EX cls ea cx H') Y H:=by
 ext b;let⟨Z,O,st,rs,sr,q⟩:=q;ext a;ext bB;unfold A7 at q;cases z:ÿG with
 |er c bn ay=>
  rw[z]at q;dsimp only at q;split at q
  .rename_i hc;let⟨C,hC⟩:=hk c hc;exact(C,hC,λbi H' cx ea e s r=>(c,C,bn,bi,ay,hC,rfl,r,s,OI.mono q e))
  .exact ąw
 |_=>rw[z]at q;ext m
def xJ(m:MB):MB:=(λZ st=>match üt with
 |.er _ _ _=>.bad
 |Ŧ=>Ŧ
 |øb=>øb
 |ût=>ût
 |ù5=>ù5
 |.bad=>.bad)
def Uh{kn:ür}[174][462](dx:DefX X)(hb:G7 X body (tSE X b))(hh:PH X ĝr (OK X h)):PS X Ėy (tS X E (xJ ľR)):=by
 refine úR (Tp dx hb hh) ?_;ext al;ext b;let⟨Z,O,st,rs,sr,q⟩:=aP;ext a;refine Kr hk ĥw;unfold xJ at q;revert q;cases A7 kn b h Z st with
 |er c bn ay=>ext bU
 |_=>ext bv
def Hn[177][5][21]:ME:=(λZ st=>match ċt with
 |some (ČJ)=>(match āv with
  |Ğ=>þT
  |_=>.bad)
 |_=>.bad)
inductive ClsAt(X:Cx)[21]:Vg->V->Prop
 |own {C:Vi} [359]:ClsAt X x Ĝ Ĝ
 |blt [378] (hm:ēc) (hv:Ěm) (hn:ė3):ClsAt X x ēr (.ty n)
def ab3[68][177][21](cv:Vg):Prop:=(∀c C,āv=Ğ->ÿu->ù_ K Ĝ cv=Ğ)
def Ui{sub:ČB}{n:Str}{cv:Vg}{v:V}(hc:ClsAt X x cv v)(hS:ab3 X.K X.mg sub x cv)(hg:ęD)(hm:ėE)(hgx:āC)(hN:Ĕk)(hv:QQ ĀJ n)(hd:ĹC)(AF:ĹD)(hdx:mK x)[303]:PE X ĕH (tE X E (Hn sub i x)):=by
 have hx:PE X (ēf) ģe:=by
  cases hc with
  |own h=>exact yB hgx h rfl hdx
  |blt h1 h2 h3=>exact Eo hgx h1 h2 rfl h3 hdx
 refine İ (oM yR hg hm Ė6 (g_ ęw (g_ hx p! cO) hs) ø ø hs g!) ?_;ext p;ext b;ext k;unfold Hn at h;ext a;ext f
 .ext gI;ext f
  .rename_i es;ext b;ext iK;have hk:=hS c C es hC;rw[<-ho]at hk;ext a;cases hc with
   |own h'=>exact(_,e',a,oe,_,.inl (rfl,hk),hp,ù3)
   |blt h1 h2 h3=>exact(_,e',a,oe,0,.inr (_,rfl,hk),hp,ù3)
  ext h
 ext h
open e
inductive gn(X:Cx)(scope:Scope):ü3->þ->Prop
 |nil:gn X scope [] []
 |cons {y:Str} {c:Vi} {j:Nat} [73] {aX:þ} (sub:će y=ň) (hX:ģH=ûE) (hk:ĂV y=ýf\/ĂV y=þJ)
   (hr:ċ7 y=ýf\/ċ7 y=þJ) (r:Ă3):gn X scope (%[y|c]::cl) (j::aX)
def gn.sub{X:Cx}[67][73]{aX:þ}(A:Ă3):ļH:=by
 induction A with
 |nil=>intro x c h;ext e
 | @cons y c0 _ _ _ sub _ _ _ _ ih=>
  intro x c h;rw[ĎO]at h;ext gs
  .rw[ăc e]at h;rw[e];exact sub.trans h
  .rw[ċ0]at h;exact ih x c h
def gn.at_[73](A:Ă3):∀[239][21],aX[i]?=úi->(ĈA)[i]?=ī ->
  ĦP:=by
 induction A with
 |nil=>intro i j x h;ext e
 |cons _ hX hk hr _ ih=>
  intro i j x h h2;cases i with
  |zero=>ext e;ext ab;exact(hX,hk,hr)
  |succ i=>exact ih i j x h h2
theorem jr:∀[73][4],x∈ĈA->∃c,ćl
 |[],x,h=>ûh
 |(y,c)::cl,x,h=>by
  ext gs
  .exact(c,Ďx)
  .have e':(x==y)=false:=by ext dN
   rw[Ą,ăz]at h;ext oG
   .exact absurd h e
   .let⟨d,hd⟩:=jr h;exact(d,by simp only[ĎO,e'];exact hd)
theorem ab4[73](sk:ĝ7)(A:Ă3)(has:ĥh)[383]:þr where
 sk:=sk
 sub:=A.sub
 has:=λx h=>by
  have m:x∈ĈA:=ĥj
  exact jr m
 iH:=ĦK
 kind:=kind
 names:=ĥ8
 len:=len
 at_:=ĥ0
def FnAt[120][21][22](f:FN):Prop:=(
 ∃fa fd ps,gN P w K mg base üb k fa fd ps (IK Ąd f)/\mg x=Ċi/\ă6 K ĆZ=true/\ćE)
section
variable[30][116]{f:FN}[4]
def ab5[413][45](hx:Č')[66][48]:ČS:=by ext b;ext kF;ext a;exact Ou F Ĉo hg hm kp b hx ha jY he g!
def Uj[413][45](IX:ćN)[421][48]:ī9:=by ext b;ext kF;ext a;exact Kp F Ĉo hg hm kp b IX ha jY he g!
open e
section
variable[131]
def FnAt.mk[4][93][44][92](F:ĺc)(hm:mg x=ĉK)(S:ăT)(hb:∀[267],ĩ1)
  (h:∀ [189] (A:Vj) [226] (s:Vh) (H:Hp) (E:XK),Ī6 ->
   ĵl):ĭx:=
 (f,fd,ps,yS F S h,hm,F.kp,Ğ5)
def A8{cd:Vg}[367]:PassesOwn ýh (þX (ċ2)) (ċ2) (Ăk).xe:=
 PassesOwn.leaving
def Dh{cd:Vg}[367]:Raises (Ăk) E:=
 λak Y H s h' e cls vs I hx hE=>G5 I hx hE
def Glob.int[4][29]{t:Tok}(h:mg x=some ĈN):Glob K mg x ļ:=(_,ĝ,h,ĄV,Ń6)
def Glob.str{x z:Str}{t:Tok}(h:mg x=some (.str z t)):Glob K mg x (ý6):=(_,ý6,h,ĄV,λ_ _=>Ąo z)
def Glob.ints[4]{a:Vi}[100]{aE:Ů}[3][395](hv:ba ýb ýE):Glob K mg x (.mt ĐU):=
 (_,Ņ,h,rfl,λO H=>Rl.abS īY (Đ6))
def Ks(K:Va):Sp:=(λvs H Q _=>∃(a:Vi)(ns:Vb),vs=ùd/\NY H/\ĜW/\Ĥd/\∀H',Q øz H')
def Uk{a:Vi}{c:aH}(k:Ľ2):SR K [a] [c] H:=by
 refine(rfl,λn m b h1 h2 _ _=>?_,λn c' b h1 h2=>?_)
 .have p1:=jb h1;have p2:=jb h2;simp at p1 p2;ext c
 .have p1:=jb h1;simp at p1;subst p1;ext aL;ext ab;exact k
def Ul{f:FN}(hf:∀(c:aH)[53],Ĥd->ĜM->∃ay,f Ģe [c]=.ok øz ay)[17]{Q:VK}(h:Ks K vs H Q E):IK Ąd f vs H Q E:=by
 ext b;let⟨a,ns,rfl,hO,hS,hl,q⟩:=h;have fin:∀c:aH,Ľ2->ĜM->IK Ąd f ùd H Q E:=by intro c k hi;let⟨ay,e⟩:=hf c ns hl hi;refine(Ģe,[a],[c],āE (ąO rfl),Uk k,?_);rw[e];intro bi H' v _ _ r;rw[r.vZ];exact q H'
 ext a;rcases hS with(h|⟨o,h⟩)|h
 .rcases hO a with z|⟨o,xs,z⟩<;>(ext v)
 .exact fin (.Tt ĐU) (o,_,h,Đ6) rfl
 .exact fin (.mod ĐU) (_,h,Đ6) rfl
def Kt[357][324]{K:Params->Va}[4](hn:l.most=some 63)[399]
  (F:∀ [27] (mg:U?) (fa:Vi) [15],ĉv h->Ę9->ęs ->
   ∃fd:FuncData,(ĕ5)/\∀base:Heap,ĉv base->ĆW->gN Ą7 w ĕj mg base ŁR k fa fd [x] (Ks ĕj)):
  Ħa:=
 _A.NZ hn ø hdf hr hY F (λ_ _ a ns hl hO hS=>(a,ns,rfl,hO,hS,hl,ù')) λ_ _ _ _ _⟨_,_,_,_,_,z⟩=>z
open e
def nJ:bootBuiltins "ValueError" = some (Ěn):=Ĳ
abbrev bmV:Vc:=[Ěn,ĸ "Exception",Ĵ7,Ĝ4]
def Ku[68][21]:Prop:=(∃C,ĢD/\ĨH/\Ęr)
def Ho{K:Va}{D:Vi}{t:Vg}{cd:ClassData}[1](h1:ņU)(h2:īN)(h3:Ċm K t û9=ġ):đB K t û9=ġ:=by show(if((ĴU).isSome&&ĽK==ĸO)=true then Ċm K t û9 else none)=ġ;rw[h1,h2,h3];rfl
inductive ee[68]:úo->Prop
 |nil:ee K mg []
 |own {c x:Str} [1] {C D:Vi} {r:úo} (h1:ÿu) (h2:ě6) (h3:ĸY) (hr:ee K mg r):ee K mg Ķs
 |blt {c x:Str} [378] {C:Vi} {r:úo} (h1:ÿu) (h2:đ2) (h2':Ěm) (h3:ù_ K Ĝ ēr=Ğ) (hr:ee K mg r):ee K mg (%[c|%[x|true]]::r)
def h!(tab:úo)(c x:Str):Ăn:=(match tab with
 |[]=>none
 |(c',x',b)::r=>if c'=c/\x'=x then ġ else h! r c x)
section
variable[131]
def ee.ab6[302](S:ĝQ):Ue K mg úN:=by
 induction S with
 |nil=>intro c x b C D h;ext e
 | @own c' x' _ _ _ _ h1 h2 h3 _ ih=>
  ext mw;ext cO
  .ext dQ;ext e;ext fD;rw[z.2,e2]at h2;ext ab;exact h3
  ext jw
 | @blt c' x' _ _ _ h1 h2 _ _ _ ih=>
  ext mw;ext cO
  .rw[z.2,e2]at h2;ext ab
  ext jw
def ee.aek[302](S:ĝQ):∀[21](cv:Vg),(∃D,cv=ąk/\ě6)\/(∃n,cv=ċ1/\Ěm/\đ2)->ab3 K mg úN x cv:=by
 induction S with
 |nil=>intro x cv _ c C h;ext e
 | @own c' x' _ _ _ _ h1 h2 h3 _ ih=>
  ext mI;ext cO
  .ext dQ;ext e;ext fD;rw[z.2]at h2;rcases hx with⟨D,rfl,e2⟩|⟨n,rfl,_,e2⟩
   .ext fW;unfold ù_;split
    .rfl
    .exact h3
   .ext fW
  ext jA
 | @blt c' x' _ _ _ h1 h2 h2' h3 _ ih=>
  ext mI;ext cO
  .ext dQ;ext e;ext fD;rw[z.2]at h2 h2';rcases hx with⟨D,rfl,e2⟩|⟨n,rfl,e2,_⟩
   .ext fW
   .rw[h2']at e2;cases e2;exact h3
  ext jA
def knL(l:Vf)[82]:Bool:=(l.contains c)
open e
section
variable[30]{x n:Str}[116]{rest:ĆY}[302]{s:MB}{r:MH}
def Hq[344][42][338][388][38]:
  Ħn:=by
 ext b;let⟨C,hm,hq,_⟩:=h;ext a;exact J1 hX hc hm hq PySem.F.excBase_ValueError hg ha he g! hd
def Um[335][126][338][45][488][328](hi:ĵA)(hl:autoParam (Ăx n=ùZ) Č)[38]:
  PH X ĕp (OK X (Uc úN x i s r)):=by
 let⟨C,hm,_,hB⟩:=h;exact ab2 hS.ab6 hN hi hl hg hm hB hs hr hd
def OL[5][173][335](hmx:ēc)(hb:ĎT)[387][65][391][303]:PE X ĕH (tE X E (Hn úN i x)):=
 Ui (.blt hmx hb hn) (hS.aek x _ (.inr (T,rfl,hb,hmx))) hg hm hgx hN hv hd AF hdx hs cO g!
open e
section
variable[ďs]
def j!(aA:úr)(k:κ):ć:=(įU)
def m_(aA:úr)(k:κ)(v:au):úr:=(
 ĥA)
variable{K:Va}
def eJ.nil:eJ K O H ([]:úr) []:=(rfl,ùH)
def eJ.cons{k:κ}[51]{aA:úr}{cg:ùl}[195](p:ĀF):eJ K O H Ņe (ĉd::cg):=
 (by simp only[Ą,p.1],Ź r p.2)
def eJ.bA{k:κ}{u:au}[88](p:eJ K O H Ņe l):∃v cg,l=ĉd::cg/\úv/\ĀF:=by
 ext b;let⟨h1,h2⟩:=p;ext a;cases l with
 |nil=>simp at h1
 |cons x l=>
  ext b;let⟨k',v⟩:=x;simp only[Ą,List.cons.injEq]at h1 h2;let⟨rfl,h1⟩:=h1;let⟨v',r,e,q1,q2⟩:=h2.bA;let⟨rfl,rfl⟩:=e;ext a;exact(v,l,rfl,q1,h1,q2)
def eJ.dN{l:ùl}(p:eJ K O H ([]:úr) l):l=[]:=by
 have:=p.1;cases l with
 |nil=>rfl
 |cons=>ext gK
def eJ.mono[88](p:þO)[47]:eJ K bi H' aA l:=(p.1,øw e _ _ p.2)
def eJ.length[88](p:þO):ø2=Ÿ:=by have:=congrArg ýs p.1;ext bY
theorem eJ.val(k:κ):∀[88],þO->(j! aA k=none/\jm l k=none)\/∃u v,j! aA k=Ę/\jm l k=Ĥ/\úv
 |[],l,p=>by rw[p.dN];exact .inl ÿe
 |ĝs,l,p=>by
  ext b;ext eT;ext a;ext go
  .exact .inr (u,v,by simp[j!,e],by simp[jm,e],r)
  .rcases eJ.val k p' with⟨h1,h2⟩|⟨u',v',h1,h2,h3⟩
   .exact .inl (ıQ,ıR)
   .exact .inr (u',v',ıQ,ıR,h3)
theorem eJ.any(k:κ):∀[88],þO->Ĉm=l.any Ćh
 |[],l,p=>by rw[p.dN];rfl
 |ĝs,l,p=>by ext b;ext eT;ext a;simp only[ýp,eJ.any k p']
theorem eJ.yO(k:κ)[51][195]:∀[88],þO->eJ K O H (þW ĪB) (øU ĪC)
 |[],l,p=>İg
 |Ŀe,l,p=>by
  ext b;ext kH;ext a;simp only[Ą];ext go
  .rw[Ā9,Ā9];exact ĄZ r Ĺu
  .rw[ün,ün];exact ĄZ r' Ĺu
theorem eJ.snoc{k:κ}[51][195]:∀[88],þO->eJ K O H (aA++[ēs]) (l++ċv)
 |[],l,p=>by rw[p.dN];exact ĄZ r Ċo
 |Ŀe,l,p=>by ext b;ext kH;ext a;exact ĄZ r' (eJ.snoc r p')
def eJ.put(k:κ)[51][195][88](p:þO):eJ K O H (m_ aA k u) (putK l k v):=by
 unfold m_ putK;rw[p.any k];split
 .exact p.yO k r
 .exact p.snoc r
open e
def jG:au->Option bF
 |ĝ=>some (üJ)
 |ük=>some (ý4)
 |_=>none
def keysOf:ý->łU
 |[]=>ûC
 |ı=>match jG u,Ġ2 with
  |ō,ÿA=>some (k::ks)
  |_,_=>none
def qo:au->łU
 |Ŷ=>Ġ2
 |_=>none
section
variable{K:Va}
def tK[51]{k:bF}[195](h:jG u=ō):v=kV k:=by
 cases u with
 |int i=>ext e;exact r.bK
 |str x=>ext e;exact r.kH
 |_=>ext e
theorem A9:∀[6][17]{ks:ŭ},ū->Ġ2=ÿA->vs=ąu kV
 |[],vs,ks,r,h=>by ext e;exact r.dN
 |ı,vs,ks,r,h=>by
  let⟨v,r',rfl,h2,h3⟩:=r.bA;unfold keysOf at h;ext f
  .rename_i k ks' e1 e2;ext e;rw[tK h2 e1,A9 h3 e2];rfl
  ext aj
def A_[51]{ks:ŭ}[195](h:qo u=ÿA):∃b,v=øM/\H b=some ĘQ:=by
 cases u with
 |tup us=>
  let⟨b,vs,rfl,hb,rb⟩:=r.AW;rw[A9 rb h]at hb;exact ĝp
 |_=>ext e
open e
def kE[2](d k:au):ĜF:=(match d with
 |Ġ=>match Š with
  |úJ=>ŁP Ń'
  |þy=>ŁY Ń'
  |_=>none
 |_=>none)
def k9[2](d k v:au):Option ai:=(match d with
 |Ġ=>match Š with
  |úJ=>if ăJ then ŁP λq=>üF n (.dK Ŀh)else none
  |þy=>if ăJ then ŁY λq=>üF n (.dT Ŀh)else none
  |_=>none
 |_=>none)
def qp{K:Va}[8]{d k:au}[118]{o:ć}[436](h:Ġ0=Ă):
  ∃a o',øo/\qh H a y o'/\ģz/\((o=none/\o'=none)\/∃u v,o=Ę/\o'=Ĥ/\úv):=by
 cases d with
 |loc n=>
  ext ml;unfold kE at h;ext I;ext f
  .ext cy;cases z:jG k with
   |none=>ext v
   |some q=>
    ext v;have:=tK rk z;ext r;exact(a,jm l q,rfl,qh.k hl,.inl Đt,p.val q)
  .ext cy;cases z:qo k with
   |none=>ext v
   |some q=>
    ext v;let⟨b,rfl,hb⟩:=A_ rk z;exact(a,jm l q,rfl,qh.t hl hb,.inr Đt,p.val q)
  ext aj
 |_=>ext e
def Dj{K:Va}{st ay:ai}{d k v:au}{x y z:V}[436](rv:Rl K O H v z)(h:k9 st d k v=some ay):
  ∃a H',øo/\yP H a y z H'/\ĝP/\SR K O ay H':=by
 cases d with
 |loc n=>
  ext ml;unfold k9 at h;ext I;ext f
  .ext cy;ext f
   .ext x;cases zk:jG k with
    |none=>ext dX;ext e
    |some q=>
     ext dX;ext e;have:=tK rk zk;ext r;have aK:aD O H O (upd H a (.dK ļ2)):=ęJ;exact(a,_,rfl,yP.k hl Ĭu,aK,ĦY)
   ext aj
  .ext cy;ext f
   .ext x;cases zk:qo k with
    |none=>ext dX;ext e
    |some q=>
     ext dX;ext e;let⟨b,rfl,hb⟩:=A_ rk zk;have aK:aD O H O (upd H a (.dT ļ2)):=ęJ;exact(a,_,rfl,yP.t hl hb Ĭu,aK,ĦY)
   ext aj
  ext aj
 |_=>ext e
def qq:ME:=(λ_ st=>.ok øq (st++[ąf]))
def Dk:ME:=(λ_ st=>.ok øq Ěs)
def k_:F2:=(λd k st=>match Ġ0 with
 |ĀP=>ù9
 |_=>.bad)
def Hr[290]:F2:=(λk d st=>match Ġ0 with
 |Ă=>.ok (.bl (if neg then ! Ē7 else Ē7)) st
 |none=>.bad)
def uR[2]:āk
 |Ġ=>match Š with
  |ĜZ=>true
  |Ĝ0=>true
  |_=>false
 |_=>false
def j?(d k x:ME):ME:=(λZ st=>Ļf λdv aK=>if ŀE then Ļm λkv bP=>(x Z bP).bind λxv kG=>match kE kG dv kv with
 |Ă=>.ok (ąv xv) kG
 |none=>.bad else .bad)
def gO(d k v:ME):MB:=(λZ st=>(v Z st).sb Z λvv aK=>(d Z aK).sb Z λdv bP=>(k Z bP).sb Z λkv kG=>match k9 kG dv kv vv with
 |ģ4=>.nx Z sE
 |none=>.bad)
section
variable{i f:Expr}{md mk mv mx:ME}
def oY{K:Va}[8][112]{p:Vi}[249]{ob:HO}{c:aH}(k:iJ K ûx ď5 c p):
  aD O H ûx ď5/\SR K ûx đw ď5/\Rl K ûx ď5 øq øA:=by
 refine(ĉf p ēj,sr.alloc hp k,ąO ?_);ext lE
def Kv:PE X Ďj (tE X E qq):=by refine İ JB ?_;ext nO;ext b;ext k;let⟨k1,k2,k3⟩:=oY (c:=ąf) sr hp ľ0;ext a;ext ay
def Kw:PE X Ďj (tE X E Dk):=by refine İ JC ?_;ext nO;ext b;ext k;let⟨k1,k2,k3⟩:=oY (c:=Ċx) sr hp ľ0;ext a;ext ay
def OM[39][275][505](hs:autoParam (SW i) ņL):PE X ĻL (tE X E (ao k_ md mk)):=by
 refine İ (N4 ø ho hi hs) ?_;rintro Y H Q ⟨Z,O,st,rs,sr,h⟩;ext bI;ext ek;unfold k_ at h2;ext cg
 .rename_i u hl;let⟨a,o',rfl,hd,_,hv⟩:=qp m9 ĕf r2 hl;rcases hv with⟨z,_⟩|⟨u',v,z,rfl,rv⟩
  .cases z
  .cases z;exact(a,v,rfl,hd,h2 dl H2 v Ģ m9 rv)
 .ext Y
def EU{K:Va}[8]{d:au}{x:V}[112](r:ł1)(h:uR st d=true):∃a,øo/\ģz:=by
 cases d with
 |loc n=>
  ext bS;ext kO;simp only[uR,hc]at h;cases c with
  |dK aA=>ext nS;exact(a,rfl,.inl Đt)
  |dT aA=>ext nS;exact(a,rfl,.inr Đt)
  |_=>ext e
 |_=>ext e
def Kx[39][275][503](hf:PE X f (tE X E mx))(m:autoParam (į') ņM):PE X ĩN (tE X E (j? md mk mx)):=by
 refine İ (JD ø ho he hf m) ?_;ext p;ext b;ext k;ext a;ext bI;ext Z
 .rename_i hd;ext b;ext kE;ext a;refine ĺ7;ext ek;refine go Z dl bP (Ďr) m9 h2 λxv kG BT H3 z e3 IL r3 h3=>?_;split at h3
  .rename_i ov hl;ext b;let⟨a',o',ea,hd',_,hv⟩:=qp IL ĵy ķ0 hl;cases ea;ext a;refine(o',hd',?_);rcases hv with⟨rfl,rfl⟩|⟨u,v,rfl,rfl,rv⟩
   .exact h3 BT H3 z Ģ IL r3
   .exact h3 BT H3 v Ģ IL rv
  .ext cd
 ext ac
def ON[39][275][505][445](hs:autoParam (ĦD) Č):
  PS X Īm (tS X E (gO md mk mv)):=by
 refine úR (N5 ø ho hi hv hs) ?_;ext al;ext b;ext k;ext a;refine JZ Z O st rs sr h λv aK bv H1 z e1 bG r1 h1=>?_;ext ia;refine JZ Z dl bP (Ďr) m9 h2 λk kG BT H3 y e3 IL r3 h3=>?_;split at h3
 .rename_i sE CD;ext b;let⟨a,H4,rfl,hd,s4,uP⟩:=Dj IL ķ0 r3 ĵy CD;ext a;exact(a,H4,rfl,hd,h3 BT H4 Y s4 uP ((łd e3).mono s4))
 .ext cd
open e
section
variable[116]
def Uo[234]{ma mb:ME}[31][435]:PE X Ě' (tE X E (ao aQ ma mb)):=abY aej ha hb hs
open e
def yW[37][89]:ý:=((āw (Ğo)).take (ľj-Ğo))
def aZ.cut{K:Va}[6][17](r:ū)[89]:aZ K O H Ě9 (yD vs lo hi):=by unfold yW yD;rw[úb];exact aZ.take _ (aZ.drop _ r)
abbrev MO:=Env->Ńh
abbrev RO:Ve->Hp->Ū->Ū->Prop:=λ_ _ a b=>b=a
abbrev tOo[104](m:MO):TO:=tG ā E RO m
def xK:MO:=(λ_ st=>Ņt)
def uS(m:ME):MO:=(λZ st=>ø4 λv ay=>match v with
 |ĝ=>.ok ĕd ay
 |_=>.bad)
def IM[89]:ûB
 |Ŷ,st=>if Ğo=0/\ľj=ĉ then .bad else .ok (.tup Ě9) st
 |Ġ,st=>match ſ with
  |đ=>.ok øq (st++[.lst Ě9])
  |none=>.bad
 |_,_=>.bad
def Q?(a:ME)(lo hi:MO):ME:=(λZ st=>ùu λx aK=>(lo Z aK).bind λl bP=>(hi Z bP).bind λh kG=>IM l h x kG)
section
variable{m:ME}
def PO.imp{e:ĐM}{t t':TO}(h:PO X e t)[156]:PO X e t':=ĕ9
def OO:PO X none (tOo X E xK):=PO.imp NN λY H Q ĘP=>h O H none Ģ sr rfl
def OP(h:čz):PO X ğ' (tOo X E (uS m)):=by
 refine PO.imp (NO h) ?_;ext p;ext b;ext k;ext a;ext y;cases u with
 |int i=>exact(i,ùK,h1 bv H1 ĕd Ģ bG rfl)
 |_=>ext s
def ab7{lo hi:ĐM}{ml mh:MO}[181](hl:PO X lo (tOo X E ml))(hh:PO X hi (tOo X E mh)):PE X ķ7 (tE X E (Q? m ml mh)):=by
 refine İ (Jn (QX.or NT SE) he hl hh) ?_;ext p;ext b;ext k;ext a;ext y;refine go Z bv aK ÿT bG h1 λl bP dl H2 l' e2 m9 r2 h2=>?_;cases r2;refine go Z dl bP (Ďr) m9 h2 λk kG BT H3 k' e3 IL r3 h3=>?_;cases r3;have ru:=üy e3 _ _ ĕf;cases u with
 |tup us=>
  ext b;let⟨a,vs,rfl,ha,ra⟩:=ru.gj;unfold IM at h3;dsimp only at h3;ext a;split at h3
  .ext cd
  .ext x;refine .inr (a,vs,rfl,ha,by rw[<-Ąv];ext aa,øL);have s:=b7 (o:=.tup (yD vs l k)) hp;exact h3 BT _ _ ýw (IL.grow s) (ûM bg (øw ýw _ _ (ra.cut l k)))
 |loc n=>
  ext b;let⟨a,rfl,ha⟩:=ru.cY;ext a;cases z:ar kG n with
  |none=>ext nG;ext cd
  |some us=>
   ext b;ext nG;let⟨vs,hs,rv⟩:=a_ IL z ha;ext a;refine .inl (a,vs,rfl,hs,øL);ext b;let⟨k1,k2,k3⟩:=hJ IL (rv.cut l k) hp;ext a;exact h3 _ _ _ k1 k2 k3
 |_=>ext cd
open e
def ae3:FM
 |Ġ,[],st=>match Š with
  |ũ=>match us[ĉ-1]? with
   |Ę=>.ok u (üF n (.lst us.dropLast))
   |none=>.bad
  |_=>.bad
 |_,_,_=>.bad
def j':FM
 |Ġ,[āB],st=>match Š,ĔL with
  |ũ,ău=>if ću then .ok .cq (üF n (ġV))else .bad
  |_,_=>.bad
 |_,_,_=>.bad
section
variable{mo:ME}{f:FM}
def Dl:Jq X "list.extend" (rMt ā E j'):=by
 refine Jq.imp GU ?_;rintro x xs H Q ⟨O,st,u,us,sr,r1,r2,h⟩;unfold j' at h;ext f
 .rename_i n m;ext t;ext mq;let⟨b,rfl,hb⟩:=ry.cY;ext f
  .rename_i us ws hw hw2;ext f
   .ext x;ext jS;let⟨zs,hZ,rz⟩:=ûy m _ b hw2 hb;refine(a,b,vs,zs,rfl,rfl,hH,hZ,by rw[<-üe,<-rz.length];ext aa,?_);let⟨k1,k2⟩:=ET sr hw ha hH (rv.append rz);ext lK
   ext h
  ext h
 ext h
open e
def rN(hi:Int)[7]:ý:=(Ĝq λĄh=>Ė (hi-ùx))
def Ky{K:Va}[140][7]:ItR K O H (rN lo n,úq) Łw:=by
 ext bR;refine ĹL
 .have hi:i<n:=by have:=jb hu;simpa[rN]using this
  ext ji;have e:u=Ė (lo-ùx):=by simp only[rN,ĭ]at hu;ext iI
  ext l;exact ĹN
 .show n<=i;simpa[rN]using hi
def Hs[219]:āF:=(match vs with
 |[ĝ,ø7,ÿL]=>if k = -1/\ĭO then .ok (rN i Ŀb,úq) ay else .bad
 |_=>.bad)
def uT(m:MA):MI:=(λZ st=>ø4 Hs)
def ae4[219]:āF:=(match vs with
 |øg=>match ēH with
  |đ=>.ok (us.reverse,Ĭp) ay
  |none=>.bad
 |_=>.bad)
def oZ:Nat->ý->ý
 |_,[]=>[]
 |i,ı=>.tup [ĝ,u]::oZ Ē us
theorem A!:∀[37](k i:Nat)(z:au),(oZ k us)[i]?=ąz->∃u,Ąb/\z=.tup [.int ((k+i:Nat):Int),u]
 |[],_,_,_,h=>úa
 |ı,k,0,z,h=>by ext e;exact(u,rfl,rfl)
 |ı,k,i+1,z,h=>by let⟨w,h1,h2⟩:=A! us øe i z h;exact(w,h1,by rw[h2,ės])
theorem xM:∀[37][22],(oZ k us).length=ĉ
 |[],_=>rfl
 |_::us,k=>by simp only[oZ,ă,xM us]
def Kz[219]:āF:=(match vs with
 |øg=>match ēH with
  |đ=>.ok Ļs ay
  |none=>.bad
 |_=>.bad)
def yX(m:MA):MI:=(λZ st=>ø4 Kz)
section
variable[30]
def OQ[222]{m:MA}[268](ha:PA X ĉD ĚW)[386]:
  PI X tg ĵJ (tI X E (uT m)):=by
 refine ąm (Oj hg hm ha hs cO) ?_;ext ca;ext b;ext k;ext a;ext aD;unfold Hs at h1;ext Z
 .rename_i i j k;ext b;let⟨v,r',rfl,rv,rr⟩:=r1.bA;let⟨w,z,rfl,AI,rz⟩:=rr.un2;ext a;ext Z
  .ext x;ext b;let⟨rfl,hz⟩:=hz;ext a;exact(i,j,by rw[rv.bK,AI.bK,rz.bK],hz,h1 bv H1 _ Ģ bG (Ky i _))
  ext ac
 ext ac
def OR[143][254]{m:MA}[420][482][262]:PI X ûX ĩO (tI X E (yX m)):=by
 refine ąm (Ol hg hm PyProof.Rows.Boot.«enumerate» ha hs) ?_;ext ca;ext b;ext k;ext a;ext aD;unfold Kz at h1;ext Z
 .ext ag;ext b;ext mp;let⟨b,rfl,hb⟩:=rv.cY;ext a;ext Z
  .ext gu;ext b;let⟨vs,hs',rvs⟩:=a_ bG hw hb;ext a;refine(b,vs,rfl,hs',ĳ2);ext mG;ext b;let⟨w1,s1,t1⟩:=a_ s g (e.at_ hb);ext a;refine(λz hz=>?_,λhi=>(w1,s1,?_))
   .ext b;let⟨u,hu,rfl⟩:=A! ws 0 i z hz;let⟨y,hy,ry⟩:=t1.get hu;ext a;refine((w1,y,s1,hy),ļB);ext b;let⟨pp,x1,rfl,hp,rfl,f1⟩:=y';have c1:=Ĺw hy;cases c1;ext a;rw[Ť];exact(Ď9,s.grow ēj,ûM bg (øw (Ď9) _ _ (Ź (Ā8 _) (āE ry))))
   .have N_:(oZ 0 ws).length<=i:=hi;rw[xM]at N_;rw[<-t1.length];exact N_
  ext ac
 ext ac
open e
def KA:FN
 |[Ś],st=>.ok (ġT) st
 |_,_=>.bad
def intsOf:ý->ăS
 |[]=>ûC
 |ĝ::us=>(đV).map ďE
 |_::_=>none
def sumF:FN
 |øg,st=>match ſ with
  |đ=>match đV with
   |āu=>Ĝu
   |none=>.bad
  |none=>.bad
 |_,_=>.bad
def Dm[6]:∀{ns:Vb},đV=āu->us=Ą3:=by
 induction us with
 |nil=>intro ns h;ext e;rfl
 |cons u us ih=>
  intro ns h;cases u with
  |int i=>
   unfold intsOf at h;cases z:đV with
   |none=>ext v
   |some ms=>ext v;rw[Ą,<-ih z]
  |_=>ext e
def xN[53]:ğq=āu:=by
 induction ns with
 |nil=>rfl
 |cons n ns ih=>simp only[Ą,intsOf,ih];rfl
def Ht:aW X Ĝr (cM ā E KA):=by
 refine ùe G? ?_;ext S;ext b;ext P;unfold KA at h;ext a;ext f
 .rename_i b;ext b;ext z;ext a;exact(b,by rw[ąJ],ùc)
 ext h
theorem aZ.Ra{K:Va}:∀{ns:Vb}[17],aZ K O H üW vs->vs=ýF āY
 |[],vs,r=>r.dN
 |ą2,vs,r=>by let⟨v,r',rfl,h1,h2⟩:=r.bA;rw[h1.bK,aZ.Ra h2];rfl
def Hu[26]:aW X ăM (cM ā E sumF):=by
 refine ùe (Ha hh) ?_;ext S;ext b;ext P;unfold sumF at h;ext a;ext f
 .ext ag;ext b;ext z;ext t;ext a;ext f
  .ext gu;ext f
   .rename_i ns hn;ext b;let⟨vs,hs,rv⟩:=a_ sr hw ha;rw[Dm hn]at rv;rw[rv.Ra]at hs;ext a;exact(a,ns,rfl,hs,ùc)
   ext h
  ext h
 ext h
section
variable{mo:ME}[116]
def Hv[123][66](iC:autoParam (attributeBase o "append" Ā āW=ü_) Č)
  (CV:(ċ3
   && ċ5)=true:=by rfl)
  [101] [182] [270]:
  PE X (Ű (ús o "append" apos) ŵ [] bw) (tE X E (fM bD mo ms)):=Ko PySem.F.slot_list_append PySem.F.type_list_append Dg ho ha iC CV iD hs nW
def Hw[123][66](iC:autoParam (attributeBase o "extend" Ā āW=ü_) Č)
  (CV:(ċ3
   && ċ5)=true:=by rfl)
  [101] [182] [270]:
  PE X (Ű (ús o "extend" apos) ŵ [] bw) (tE X E (fM j' mo ms)):=Ko PySem.F.slot_list_extend PySem.F.type_list_extend Dl ho ha iC CV iD hs nW
open e
theorem ab8{cl cl':ü3}{caps':þ}(sk:Ń3)(A:Ă3)(B:ĳ1)(has:ĥf)[383]:Ĳ5 where
 sk:=sk
 sub:=ċm
 has:=λx h=>by
  have m:x∈Ņ_:=ĥj
  exact jr m
 iH:=ĦK
 kind:=kind
 names:=ĥ8
 len:=len
 at_:=ĥ0
def len0[130](h:C [])[61](hl:ĉ=0):C us:=by rw[ČK hl];ext j
def KC[130][3](h:∀a(r:Vc),úb=n->C (a::r))[61](hl:ĉ=n+1):C us:=by
 cases us with
 |nil=>cases hl
 |cons a r=>exact h a r Ąz
def ab9[130](h:∀a,C [a]):∀us:Vc,ĉ=1->C us:=KC λa=>len0 Ċ6
def wj[130](h:∀a b,C [a,b]):∀us:Vc,ĉ=2->C us:=KC λa=>ab9 Ċ6
def Dp[130](h:∀a b c,C ĉD):∀us:Vc,ĉ=3->C us:=KC λa=>wj Ċ6
def wk[130](h:∀a b c d,C [a,b,c,d]):∀us:Vc,ĉ=4->C us:=KC λa=>Dp Ċ6
def Uq[130](h:∀a b c d e,C [a,b,c,d,e]):∀us:Vc,ĉ=5->C us:=KC λa=>wk Ċ6
open e _D
variable {us:List _D.au}
variable {u:_D.au}
variable {s s' s1 s2:_D.ai}
variable {body B:_D.MB}
variable {mg:Ģa}
variable [44]
variable {ms:_D.MA}
variable {as:_D.AS}
variable {aA:List (_A.bF×_D.au)}
variable {x0 x1 x4 x2 y7 y5 y6:Option _D.au}
namespace _A
open PySem.Spec PyProof.Rows PySem.W Builtin Builtin.ObjectAttr Builtin.Getset_descriptor PySem.Calls
def yY[135]:Bool:=(Ĭk == ļp&&(ĮZ == þY)&&(İl == ĢN) &&
 (ėG==Ğ)&&(ŀo==Ğ)&&(Įk == ĢO)&&(ŀC==Ğ)&&(ĺK==Ğ))
structure k![135]:Prop where
 ga:Ĭk = ļp
 gh:ĮZ = þY
 gc:İl = ĢN
 mo:ėG=Ğ
 mb:ŀo=Ğ
 sg:Įk = ĢO
 tk:ŀC=Ğ
 kc:ĺK=Ğ
def Hx{K:Va}(h:ņK):k! K C:=by unfold yY at h;simp only[úx]at h;let⟨⟨⟨⟨⟨⟨⟨a,b⟩,c⟩,d⟩,e⟩,f⟩,g⟩,i⟩:=h;exact(ùs a,ùs b,ùs c,ùs d,ùs e,ùs f,ùs g,ùs i)
section
variable[18]{K:Va}{x:Vi}{ox:Obj}{R:ĀO}
def EV[35](hx:ŀO)(hc:ğv):Looks M h (typeOf ûw) Ĝ:=hc▸(Looks.ld hx).andThen .now
def Dq{tp:Vg}[266](hm:ėG=Ğ)[451]:codeAny û A (ąN (ċ8) ([ĕm,Ċn,tp],[])) R s:=by
 ext em;have L1:=looks_mroIn (M:=ĀT) X hm;refine codeAny_call_builtin KF.slot_gs.plain KF.entry_gs (KF.slot_gs.check _ _ _ _ _ _ _ _ KF.type_class (KF.args_gs _ _ _) ?_);unfold Builtin.«getset_descriptor.__get__» descrGet;rw[dga_obj];ext Q;unfold descrGetter descrCheckInstance descrNameAndClass isInstance;simp only[KF.owner_class]
 repeat lk
 refine(Code.quiet_builtin _ Ų,codeAny_builtin KF.entry_class ?_)
 repeat lk
 ext j
def A?[35](X:K.In h)[233]:Looks M h (find ûw Ĝ "__class__") (.bind (ċ8) ąB):=by have L1:=looks_findIn (M:=M) X q.gc;have L2:Looks M h (getOf ė5) ė6:=looks_specialIn X q.sg;have L3:=looks_takesIn (M:=M) X q.tk;refine L1.andThen (L2.andThen ?_);exact(show Looks M h (dataDescriptor? ė5 ė6) (some %[ċ8|ĕm])from L3.andThen .now).andThen (Looks.tag .now)
def Ba{tk:Tok}[266][233][451]:
  codeAny û A (ąN ĥT ([Ċn,ĘZ],[])) R s:=by
 ext em;have L1:=looks_mroIn (M:=ĀT) X q.mb;have L2:=A? (M:=ĀT) (x:=x) X q;refine codeAny_call_builtin PySem.F.attrBase_ValueError.ga.plain PySem.F.entry_bexc_ga ?_;have hk:builtinKind "BaseException.__getattribute__" = some .slot:=Ĳ
 have Ur:splitId "BaseException.__getattribute__" = some %["BaseException"|"__getattribute__"]:=Ĳ
 have ha:=PySem.F.args_bexc_ga ûw (ĘZ);simp only[checkBuiltinCall,hk,Ur];ext R;refine wpAny_bind (L0.at Ły);unfold argsOk at ha;generalize ĴI "BaseException.__getattribute__" = sg at ha⊢;cases sg
 all_goals (try (dsimp only at ha⊢;rw[ha]))
 all_goals ext aA
 all_goals unfold Builtin.«object.__getattribute__»
 ext nW
 ext nW
 all_goals (refine wpAny_bind (L0.at (wpAny_bind (L2.at ?_))))
 all_goals (unfold bindTo)
 all_goals (ext d)
 all_goals (ext mB)
 all_goals (refine wpAny_call (Dq X hx hc q.mo ?_))
 all_goals (ext bE)
def Hy{tk:Tok}[266][233](h:Q Ĝ s):wpAny û A (getAttrBy ûw (ĘZ) false) Q E s:=by
 ext em;have L1:=looks_findIn (M:=ĀT) X q.ga;have L2:=looks_findIn (M:=ĀT) X q.gh;unfold getAttrBy;refine wpAny_holding (wpAny_bind (L0.at (wpAny_bind Ły)));have hx2:(ĥx)=false:=Ĳ
 have Us:(onTheHeap (ü2 C)&&ĥx)=false:=by rw[hx2];rfl
 ext d;rw[if_neg (by rw[Us];decide)];unfold getAttrByItsOwn;ext R;have L3:Looks û hh (hookBefore Ĝ) none:=looks_hook X (by rw[if_pos ù4];exact q.gh);refine L3.at (wpAny_bind (wpAny_attempt (čI)));unfold callGetattribute;ext Q;refine wpAny_call (Ba X hx hc q ?_);exact handed_on rfl h
def Bb[169][266][233](h:Q (ûZ) þj):wpAny û A (getAttr? ûw "__class__") Q E s:=by refine wpAny_bind (wpAny_mkText (wpAny_bind (wpAny_attempt (Hy X hx hc q ?_))));ext bE
open e
theorem KD{K:Va}{x:Vi}{ox:Obj}(hc:ğv)[233]:KitX K ûw Ĝ (λh=>ŀO) where
 ty:=λ_ _ _ hx=>EV hx hc
 it:=λM h X _=>(kit_cls (M:=M) X q.kc).2.1
 ne:=λh tp dd aE n sl X e=>Ęm λz=>by
  ext nN;have kc:=q.kc;unfold kitCls at kc;dsimp only at kc;split at kc
  .ext ci;rw[úx]at z;have z0:=z.1;unfold clsIn at z0;split at z0
   .rename_i c' d' cd' QR ho;rw[X _ _ ho]at e;ext g
   .cases z0
  .cases kc
 ca:=λX hx k=>Bb X hx hc q k
open e _A
variable {mb mo:_D.ME}
namespace _D
open PySem.Spec _A
open PyProof.Rows hiding St
inductive wm[68]:ÿr
 |nil:wm K mg []
 |cons [4] {C:Vi} {r:Vf} (hm:ĢD) (hq:ņK) (hr:wm K mg r):wm K mg Ċu
theorem wm.at_{K:Va}[115]:∀{qs:Vf},wm K mg qs->ŀt=true->∃C,ÿu/\k! K C
 |_,.nil,h=>ûh
 |_,Ċ (x:=x) hm hq hr,h=>by
  by_cases e:c=x
  .ext l;exact(_,hm,Hx hq)
  .exact hr.at_ (by simpa[e]using h)
structure OS where
 S:sD
 own:Str
 line:Nat
 col:Nat
open e _D
namespace _A
open PySem.Spec PyProof.Rows
def ab_:ý1:=(λx vs H Q=>∃i,ċU/\vs=[]/\Q (ė8) H)
def OT:Jq X "int.bit_length" ab_:=by ext ez;ext b;let⟨i,rfl,rfl,q⟩:=h;ext C;have hus:=rv.zero;subst hus;ext a;exact call_gives F.slot_int_bit_length (ĺO) F.entry_int_bit_length (F.args_int_bit_length_1 _) (AutoIntG2.int_bit_length_int_0 i t) (ė8,H,ù2,ę,q)
open e _A
namespace _D
open PySem.Spec _A
open PyProof.Rows hiding St
def OU:F2:=(sF λi j st=>if 0<=j then .ok (ĶP) st else .bad)
def Hz:F2:=(sF λi j st=>.ok (Ľy) st)
def ab!:ûB
 |ĝ,st=>.ok (ė8) st
 |_,_=>.bad
def Rb(m:ME):ME:=(λZ st=>ø4 ab!)
def OV:dE X ĳl (rM ā E OU):=by
 refine ùf Sl ?_;ext H;ext b;ext G;ext cV;ext a;by_cases hj:0<=j
 ext ip
 ext jU
def OW:dE X ĳj (rM ā E Hz):=by refine ùf Sm ?_;ext H;ext b;ext G;ext bj;ext a;exact ėm
def OX[123](iC:autoParam (attributeBase o "bit_length" Ā āW=ü_) Č)[101]:
  PE X (Ű (ús o "bit_length" apos) [] [] bw) (tE X E (Rb mo)):=by
 refine İ (SI PySem.F.plainAttrs_int PySem.F.slot_int_bit_length PySem.F.type_int_bit_length OT ho iC iD) ?_;ext p;ext b;ext k;ext a;ext y;cases u with
 |int i=>rw[ùK];exact(rfl,i,rfl,rfl,bQ bG h1)
 |_=>ext s
open e _D
namespace _E
open PySem.Spec _A _D
open PyProof.Rows hiding St
def fN:au:=(.mt ([2,3,5,7,11,13,17,19,23,29,31].map Ė))
def iP:FN:=(ħG)
def bV:FN:=(fL 1 1 (aB (dP (bx (ao ĝd aM ŁU)) āh aT) (aB (dP (fJ (bx (ao ltV aM i!)) (bx (ao uI aM (mC Łc)))) ť aT) (bb (ax C! (ag (b9 1 [0] (dy ŁU) ĩ aU (ao gC ďD bp)) aw))))))
def dR:FN:=(fL 1 1 (bb (Oo (bx (ao ltV aM bp)) ġD cG)))
def jt:FN:=(fL 1 1 (aB (dP (bx (ao gC ľ6 cG)) (fK "NoInverse" (ag (qs "only 1 and -1 have an inverse among the whole numbers") aw)) aT) (bb aM)))
def c8:FN:=(fL 1 1 (bb (wg (ax ąV øp) (mOr ĖX (ax ā2 øp)))))
def shared:FN:=(fL 2 6 (aB (aN 2 (cH (ag ľ6 (ag (ax ąU øp) ø6)))) (aB (aN 3 (cH (ag (ax C_ ùq) (ag bp (ag (ax ąU ùq) aw))))) (aB (j_ (ĸo) (ĤH)) ĄT))))
def iQ:FN:=(fL 1 1 (dP Ĉ8 (fK "NoRing" (ag (qs "a ring is 0 or a prime from 2 to 997") aw)) aT))
def inverse:FN:=(fL 2 2 (aB (bH (ax _E.iQ øp)) (aB (dP Ĝ9 (bb (ax _E.jt ùq)) aT) (aB (dP (bx (ao jc ďD bp)) (fK "NoInverse" (ag (qs "a multiple of the prime has no inverse") aw)) aT) (bb (ao cw (ao aQ (ax ĒD (ag ďD øp)) cG) aM))))))
def gp:FN:=(ħG)
def fB:FN:=(fL 1 1 (dP ļT ĕN aT))
open e _E
namespace _D
open PySem.Spec _A
open PyProof.Rows hiding St
theorem Bc{g:ør}{a:AS}[92](P:Nat->ġ0):∀[37][22][14][2],
  (∀[5](u:au)[14][2],Ąb->P (k+i) Z st->g st/\∃pc,ċG=Ą2/\∃bn ay,(ĈZ=Ŧ\/ĈZ=ù5)/\P (k+i+1) bn ay) ->
  (∀Z st,P (k+ĉ) Z st->g st)->P k Z st->∃bn ay,forL g a body us Z st=Ŧ/\P (k+ĉ) bn ay
 |[],k,Z,st,_,he,h=>by refine(Z,st,?_,h);ext ch;rw[if_pos (he Z st h)]
 |ı,k,Z,st,hs,he,h=>by
  let⟨hg,pc,ha,bn,ay,hb,hP⟩:=hs 0 u Z st rfl h;have ih:=Bc P us øe bn ay (λi v ul bP hv hp=>by
   have:=hs Ē v ul bP hv (by rw[show k+Ē=k+1+i by ext c];exact hp);rw[show k+Ē+1=k+1+i+1 by ext c]at this;ext n) (λul bP hp=>he ul bP (by ext jv;exact hp)) hP
  let⟨ul,bP,e2,p2⟩:=ih;refine(ul,bP,?_,by ext jv;exact p2);ext ch;ext bD;rcases hb with hb|hb<;>(ext d;rw[hb];exact e2)
theorem kg[333][8][238](I:Env->Prop)(p:āk)(f:au->au):∀[37](τ:Env)(ys:ý),I τ ->
  (∀u∈us,∀τ,I τ->∃pi,ĽP/\I pi/\ģN=.ok (p u) st/\(p u=true->e pi st=.ok (f u) st))->aY g a c e us τ st ys=.ok (ys++(us.filter p).map f) st
 |[],τ,ys,_,_=>by unfold aY;rw[û4];simp
 |ı,τ,ys,hI,hs=>by
  let⟨pi,h1,h2,h3,h4⟩:=hs u ċ τ hI;have hs':=λv hv=>hs v (š u hv);unfold aY;rw[û4,h1];ext d;rw[h3];cases z:p u with
  |true=>
   ext d;rw[h4 z];ext d;rw[Į1,Āf z];simp
  |false=>
   ext d;rw[Į1,Āe (by rw[z];simp)]
def br[2][37]:ar ę9 øu=đ:=by unfold ar;ext eu
def Bd[8][3](h:üD)(more:ai):ar (st++more) n=đ:=by
 have hn:n<øu:=by
  ext lX
  .ext m
  .ext dI;ext bc
 unfold ar at h⊢;rw[øW hn];ext j
theorem uU{t:MT}[92][384]:
  ∀[7][14][2],ĊE<n->ąl->∃bn ay,ĺI=some (Ŧ)/\Q bn ay
 |0,Z,st,h,_=>Ńe
 |n+1,Z,st,h,hp=>by
  unfold fk;rcases hs Z st hp with⟨aK,e,q⟩|⟨aK,bn,ay,e,hb,p',lt⟩
  .rw[e];exact(Z,aK,rfl,q)
  .rw[e];ext d;let⟨ul,bP,e2,q2⟩:=uU P M Q hs n bn ay ø p';rcases hb with hb|hb<;>(rw[hb];exact(ul,bP,e2,q2))
def uV{t:MT}[384][14][2](hp:ąl):∃bn ay,ěq=Ŧ/\Q bn ay:=by let⟨bn,ay,e,q⟩:=uU P M Q hs (ĊE+1) Z st ĕa hp;exact(bn,ay,xH e,q)
def bR.kh(r:ûF)(k:Ĉk):bR β:=(match r with
 |ĉy=>āy
 |Ąi=>Ąi
 |.bad=>.bad)
def bR.OY(r:ûF)[14](k:ąa):b!:=(match r with
 |ĉy=>āy
 |Ąi=>ă3
 |.bad=>.bad)
def b!.de(r:b!)(k:MB):b!:=(match r with
 |ÿp=>k Z st
 |úO=>úO
 |ĒJ=>ĒJ
 |ĒK=>ĒK
 |ă3=>ă3
 |.bad=>.bad)
def b!.fin(r:b!):ú0:=(match r with
 |.nx _ ay=>.ok .cq ay
 |øb=>ĄC
 |.er c _ ay=>đF
 |_=>.bad)
section
variable[63][8]
def aJ{a:α}{k:Ĉk}:(Ģ1).kh k=āy:=rfl
def bI{a:α}{k:ąa}:(Ģ1).OY Z k=āy:=rfl
def OZ[115]{k:ąa}:(bR.err c st:ûF).OY Z k=ă3:=rfl
def gP{k:MB}:(þc Z st).de k=k Z st:=rfl
def uW{v:au}{k:MB}:(ğg).de k=úO:=rfl
def KG:(þc Z st).fin=.ok .cq st:=rfl
def gq{v:au}:(ğg).fin=ù9:=rfl
def k?[205]{k:Ĉk}:r.bind k=r.kh k:=by cases r<;>rfl
variable{a b c:ME}{f g:F2}{t u:MT}{s1 s2:MB}{v:au}
def cB[205]{k k':Ĉk}[456]:r.bind k=r.kh k':=Ī4
def qr[205]{k k':ąa}[456]:r.sb Z k=r.OY Z k':=Ī4
def KH(f:F2)(x:au):ûB:=(λy st=>f x y st)
def ab?(f:F2)(b:ME)[14]:ûB:=(λx st=>ĵ_)
def dS:ao f a b Z st=ûm (ab? f b Z):=ŀe
def gH{x:au}:ab? f b Z x st=ĵ_:=rfl
def dU[258]:KH f x y st=f x y st:=rfl
def m?:mC v Z st=ù9:=rfl
def asB:au->Ę7
 |Ś,st=>.ok b st
 |_,_=>.bad
def iT[1]:asB ùJ st=.ok b st:=rfl
def gQ:bx a Z st=ûm asB:=āG
def Ut(b:ME)[14]:ûB
 |Ż,st=>ÿG
 |ùR,st=>Ēy
 |_,_=>.bad
def qt:wg a b Z st=ûm (Ut b Z):=cB λx _=>by
 ext op
 ext mQ
def tO:Ut b Z øz st=ÿG:=rfl
def EW:Ut b Z új st=Ēy:=rfl
def kOr(b:ME)[14]:ûB
 |Ż,st=>þT
 |ùR,st=>ÿG
 |_,_=>.bad
def Rc:mOr a b Z st=ûm (kOr b Z):=cB λx _=>by
 ext op
 ext mQ
def Uu:kOr b Z øz st=þT:=rfl
def Uv:kOr b Z új st=ÿG:=rfl
def ab':ûB
 |ċk,st=>ķ'
 |_,_=>.bad
def Uw:Om a Z st=ûm ab':=āG
def k_not{k:Bool}:ab' (ċk) st=ķ':=rfl
def EY(u:MT)[14]:Ġm
 |true,st=>u Z st
 |false,st=>Ĝx
def O0:oU t u Z st=ĒG (EY u Z):=āG
def KI:EY u Z false st=Ĝx:=rfl
def KJ(u:MT)[14]:Ġm
 |true,st=>ĐC
 |false,st=>u Z st
def n!:fJ t u Z st=ĒG (KJ u Z):=āG
def yZ:KJ u Z true st=ĐC:=rfl
def tP:KJ u Z false st=u Z st:=rfl
def Rf:Ġm:=(λk st=>Ņr)
def mO:ck t Z st=ĒG Rf:=ÿH
def KL{k:Bool}:Rf k st=Ņr:=rfl
def HA[247][14]:Bool->þk
 |true,st=>ār
 |false,st=>ÿG
def Be:Oo t a b Z st=ĒG (HA a b Z):=āG
def EZ:HA a b Z true st=ār:=rfl
def E3:HA a b Z false st=ÿG:=rfl
def iU:aw Z st=.ok [] st:=rfl
def Dr(x:au):ý->ĜL:=(λxs st=>ły)
def Rg(ms:MA)[14]:au->ĜL:=(λx st=>ûe (Dr x))
def fg:ag a ms Z st=ûm (Rg ms Z):=ŀe
def gR{x:au}:Rg ms Z x st=ûe (Dr x):=rfl
def fh{x:au}{xs:ý}:Dr x xs st=ły:=rfl
def aca:ĄQ:=(λxs st=>īR)
def KN:cH ms Z st=ûe aca:=ÿH
def Rh{xs:ý}:aca xs st=īR:=rfl
def acb:ĄQ:=(λxs st=>Ĩt)
def Ux:bL ms Z st=ûe acb:=ÿH
def acd{xs:ý}:acb xs st=Ĩt:=rfl
def gD{h:FN}:ax h ms Z st=ûe h:=ÿH
def ace:ûB
 |ĝ,st=>.ok Ĝc st
 |_,_=>.bad
def KO[29]:ace ļ st=.ok Ĝc st:=rfl
def KP:yT a Z st=ûm ace:=āG
def wx[136](v:au)[2]:ú0:=(match T5 T st v with
 |ġ=>Ğ1
 |none=>.bad)
def KQ[173]:C? T a Z st=ûm (wx T):=ÿH
def dJ:aB s1 s2 Z st=(Ąy).de s2:=by unfold aB;ext gq
def ki:aT Z st=ÿp:=rfl
def Ri[14]:ēI:=(λ_ st=>ÿp)
def kj:bH a Z st=Ġf Z (Ri Z):=ĊX
def KR:Ri Z v st=ÿp:=rfl
def acf:ēI:=(λv st=>úO)
def fO:bb a Z st=Ġf Z acf:=ĊX
def jd:acf v st=úO:=rfl
def kIf(s1 s2:MB)[14]:Bool->ăU
 |true,st=>Ąy
 |false,st=>s2 Z st
def ju:dP t s1 s2 Z st=(ÿo).OY Z (kIf s1 s2 Z):=qr ĤU
def y9:kIf s1 s2 Z true st=Ąy:=rfl
def n?:kIf s1 s2 Z false st=s2 Z st:=rfl
def acg[5][14]:ēI:=(λv st=>.nx ćP st)
def Ds:aN i a Z st=Ġf Z (acg i Z):=ĊX
def Rj:acg i Z v st=.nx ćP st:=rfl
def KS[21][14]:ý->ăU:=(λvs st=>īS)
def o![4]:fK x ms Z st=(ģW).OY Z (KS x Z):=ĊX
def tQ[4]{vs:ý}:KS x Z vs st=īS:=rfl
def kFor(as:AS)(s1:MB)[14]:Itm->ăU:=(λp st=>forL p.2 as s1 p.1 Z st)
def y_{it:MI}:fj it as s1 Z st=(ēR).OY Z (kFor as s1 Z):=ĊX
def E4{q:ør}:kFor as s1 Z %[us|q] st=forL q as s1 us Z st:=rfl
def Uy:ĄQ:=(λys st=>İM)
def Rk{ys:ý}:Uy ys st=İM:=rfl
def KU[102](as:AS)(t:MT)(a:ME)[14]:Itm->þk:=(λp st=>if ĳ3 then(aY p.2 as t a p.1 Ċ9 st []).kh Uy else .bad)
def tR{it:MI}:b9 k aX it as t a Z st=(ēR).kh (KU k aX as t a Z):=cB λp aK=>by
 unfold KU;split
 .exact ÿH
 .rfl
def y!{q:ør}:KU k aX as t a Z %[us|q] st=if ŀQ then(aY q as t a us Ċ9 st []).kh Uy else .bad:=rfl
def d!{np n:Nat}(h:ĉ=np):fL np n s1 us st=(ņy).fin:=by unfold fL;rw[ùE];cases ņy<;>rfl
def iV(h:ċt=ĀP)(hx:Ā6):nZ i Z st=ù9:=by unfold nZ;rw[h];simp[hx]
def Rm[63](hx:Ā6):aM (Ĥ::Z) st=ù9:=iV rfl hx
def o?{x:ć}[63]:nZ Ē (x::Z) st=nZ i Z st:=rfl
def gW[63][98]:aM (some ű::Z) st=.ok ű st:=rfl
def E5[63]{j:ý}:aM (some (.tup j)::Z) st=.ok (.tup j) st:=rfl
def E6(v:au)[2]:āF:=(match uN st v with
 |some p=>.ok p st
 |none=>.bad)
def kl:dy a Z st=ûm E6:=by unfold dy;rw[k?];rfl
def mQ[3](h:üD):E6 Ħ st=.ok Ġa st:=by simp only[E6,uN,h];rfl
def Uz[219]:āF:=(match vs with
 |ċx=>ĦI
 |_=>.bad)
def O1:bZ ms Z st=ûe Uz:=by unfold bZ;rw[k?];rfl
def O2[98][340]:Uz ċx st=.ok Ğb st:=by unfold Uz;ext d;rw[if_pos ĄU]
def O3[69][219]:āF:=(match vs with
 |[u,w]=>match iM ay u,iM ay w with
  |ļn,ļo=>ĥ7
  |_,_=>.bad
 |_=>.bad)
def KW{b1:Bool}:uO b1 b2 ms Z st=ûe (O3 b1 b2):=by unfold uO;rw[k?];rfl
def O4[257]:O3 false false [Ŷ,ĉZ] st=.ok (Ąt,ļy) st:=rfl
def E7[3](h1:üD):n_ øg st=Ğ2:=by unfold n_;ext d;rw[h1]
def UA[24]:cA ļ ű st=ĴB:=rfl
def uX[24]:gb ļ ű st=ĴC:=rfl
def Dt[24](h:Ġu):ĎG:=by unfold du;ext d;rw[ùE]
def Du[24](h:Sz i/\Sz j):ĎG:=Dt ĕb
def Bf[24](h1:ÿm<i)(h2:i<ŋ):ĎG:=Dt (.inr (.inl ĄU))
def mul_r[24](h1:ÿm<j)(h2:j<ŋ):ĎG:=Dt (.inr (.inr ĄU))
def div_ii[24](h:Dz j):iL ļ ű st=łw:=ùE
def fP[24](h:¬ j=0):cw ļ ű st=łx:=üo
def uZ[24]:ltV ļ ű st=ĶS:=rfl
def rO[24]:uI ļ ű st=ĶQ:=rfl
def ach[24]:geV ļ ű st=łv:=rfl
def rQ[24]:jc ļ ű st=ĴA:=rfl
def rR[24]:gC ļ ű st=.ok (.bl (!(i==j))) st:=rfl
def Rn{i j:Str}:jc (.str i) (.str j) st=ĴA:=rfl
def qc[29]{v:au}[491]:aQ ÿK ļ st=ù9:=by unfold aQ;ext d;rw[h]
def og[3][29]{v:au}(h1:üD)[491]:aQ Ħ ļ st=ù9:=by unfold aQ;ext d;rw[h1];ext d;rw[h]
def je[3](h1:üD):c7 øg st=Ďs:=by unfold c7;ext d;rw[h1]
def tU:c7 ąP st=Ďs:=rfl
def aci[29]:C_ ċu st=łz:=rfl
def E8[316]:i? 16 st Ħ (āB)=some ğC:=by ext bH;simp only[vw,h1,h2];cases us<;>rfl
def eq_nil[316]:jc Ħ (āB) st=.ok (.bl ğC) st:=by unfold jc;rw[E8 h1 h2]
def ne_nil[316]:gC Ħ (āB) st=.ok (.bl (! ğC)) st:=by unfold gC;rw[E8 h1 h2]
def bR.noe(r:ûF):ûF:=(match r with
 |ĄC=>ĄC
 |ĒL=>.bad
 |.bad=>.bad)
def UB{m:ăr}:Ua m Z st=(üt).noe:=by unfold Ua bR.noe;cases üt<;>rfl
def UC{a:α}:(Ģ1).noe=ĉy:=rfl
def b!.O5(r:b!):b!:=(match r with
 |.er _ _ _=>.bad
 |Ŧ=>Ŧ
 |øb=>øb
 |ût=>ût
 |ù5=>ù5
 |.bad=>.bad)
def KY:xJ s1 Z st=(Ąy).O5:=by unfold xJ b!.O5;ext gq
def O6:(ğg).O5=úO:=rfl
def b!.UD(r:b!)(kn:ür)(h:MH):b!:=(match r with
 |þ0=>Īd
 |Ŧ=>Ŧ
 |øb=>øb
 |ût=>ût
 |ù5=>ù5
 |.bad=>.bad)
def UE{kn:ür}{h:MH}:A7 kn s1 h Z st=(Ąy).UD kn h:=by unfold A7 b!.UD;ext gq
def O7{kn:ür}{h:MH}[115](hk:ĒE):(b!.er c Z st).UD kn h=Ģr:=by show(if ĒE then Ģr else .bad)=_;rw[Ąs]
def acj{sub:ČB}{x c:Str}{r:MH}(h:āv=Ğ):Uc sub x i s1 r c Z st=uQ (s1 ĎV st):=by unfold Uc;rw[h]
def HB:uQ (úO)=úO:=rfl
open e
open PyProof.Rows hiding St kindOf
section
variable[63][8]{a b c o:ME}{f:F2}{g:FM}{v w:au}[178][257]
def UG(x:au)(l:Ū):Ū->þk:=(λh st=>IM l h x st)
def UH(hi:MO)[14](x:au):Ū->þk:=(λl st=>ļV (UG x l))
def kSl(lo hi:MO)[14]:ûB:=(λx st=>ļW (UH hi Z x))
def ack[377]:Q? a lo hi Z st=ûm (kSl lo hi Z):=cB λx aK=>cB λl bP=>cB λh kG=>rfl
def ael[377]:kSl lo hi Z v st=ļW (UH hi Z v):=rfl
def acm{hi:MO}{l:Ū}:UH hi Z v l st=ļV (UG v l):=rfl
def acn{l h:Ū}:UG v l h st=IM l h v st:=rfl
def KZ:xK Z st=Ņt:=rfl
def kO:au->Ńh
 |ĝ,st=>.ok ĕd st
 |_,_=>.bad
def K0:uS a Z st=ûm kO:=āG
def y?{l h:Ū}(e:üD):IM l h Ħ st=.ok øq (st++[.lst (yW us l h)]):=by simp only[IM,e]
def UI(g:FM)(x:au):ĄQ:=(λxs st=>g x xs st)
def O8(g:FM)(ms:MA)[14]:ûB:=(λx st=>if A6 st x=true then ûe (UI g x)else .bad)
def K2:fM g o ms Z st=(o Z st).kh (O8 g ms Z):=cB λx aK=>by
 unfold O8;split
 .exact ÿH
 .rfl
def Ro[281]:O8 g ms Z Ħ st=ûe (UI g Ħ):=by unfold O8;rw[if_pos (by unfold A6;ext d;rw[h])]
def Rp{xs:ý}:UI g v xs st=g v xs st:=rfl
def HC[281](hl:ŃZ):bD Ħ [v] st=ĵ':=by simp only[bD,h];rw[if_pos hl]
def O9:uT ms Z st=ûe Hs:=by unfold uT;rw[k?]
def O_:yX ms Z st=ûe Kz:=by unfold yX;rw[k?]
def UJ{j k:Int}[340](h3:Ā2<=k)(h4:k<Āo):Hs [ø7,ÿL,.int (-1)] st=.ok (rN j (j-k).toNat,úq) st:=by unfold Hs;ext d;rw[if_pos (rfl,h1,h2,h3,h4)]
def UK(e:üD):Kz øg st=.ok Ļs st:=by simp only[Kz,e]
def UL(e1:üD)(e2:ar st m=ēW):O3 true true [Ġ,āB] st=.ok (Ąt,λbP=>ģJ=đ/\ar bP m=ēW) st:=by unfold O3;unfold iM;ext d;rw[e1,e2];rfl
def UM{k:Int}(h1:Š=ũ)(h2:Ġj)(h3:k<ýT)(h4:ĸ0):du Ħ (ÿL) st=īJ:=by simp only[du,h1];rw[if_pos (h2,h3,h4)]
def UN[2][37]:(st++[ą us])[øu]?=ũ:=đP
def is_list[281]:wx "list" Ħ st=þT:=by unfold wx T5 kindOf;ext d;rw[h];rfl
def K3:wx "tuple" ÿK st=þT:=rfl
def K4[2](k k':aH):(st++[k]).set øu k'=st++[k']:=by rw[ņR,úu];rfl
open e
mutual
def Bg:Nat->āk
 |_,.cq=>true
 |_,úU=>true
 |_,üE=>true
 |_,ÿM=>true
 |0,ÿW=>false
 |n+1,Ŷ=>ģO
 |_,_=>false
def dW:Nat->ý->Bool
 |_,[]=>true
 |n,ı=>Bg n u&&ģO
end
mutual
theorem K5[2]:∀[7](v:au),Bg n v=true->i? ÿY st v v=Ğ
 |_,.cq,_=>rfl
 |_,Ś,_=>by show some (b==b)=_;ext bT
 |_,ĝ,_=>by show some (i==i)=_;ext bT
 |_,ük,_=>by show some (x==x)=_;ext bT
 |0,ÿW,h=>úa
 |n+1,Ŷ,h=>by show Ęd=Ğ;exact iy st n us h
 |n,.loc _,h=>čQ
 |n,Ĕm,h=>čQ
 |n,ĉW,h=>čQ
 |n,.mt _,h=>čQ
theorem iy[2]:∀[7][37],ĜP->Ęd=Ğ
 |_,[],_=>rfl
 |n,ı,h=>by
  have h':Ņy/\ĜP:=by simpa[dW]using h
  show(match i? ÿY st u u,Ęd with|Ō,ġ=>ĈJ|_,_=>none)=_;rw[K5 st n u h'.1,iy st n us h'.2];rfl
end
theorem qu[3]:∀[6],(∀u∈us,Ņy)->ĜP
 |[],_=>rfl
 |ı,h=>by unfold dW;rw[ģS,qu λw hw=>h w (š u hw)];rfl
def Bh[7][53]:dW n üW=true:=qu λu hu=>by let⟨i,_,rfl⟩:=Ĕ hu;cases n<;>rfl
open e _D
namespace _F
open PySem.W PyProof.Rows
def pw2{R:Đn}{l:ř}(h:Ÿ<2):l.Pairwise R:=by
 cases l with
 |nil=>ext am
 |cons a r=>
  cases r with
  |nil=>exact ĂA
  |cons b r=>exact absurd h (Nat.not_lt.mpr (Ę3))
def pb[15](d:Vi)(es:ĕ6)(ep:Nat):Prop:=(∃o,øJ d=Ă/\āH=ğI /\ ćV)
section
variable[18]{d:Vi}[187]
def pb.ty(x:ăt):Ā_ (ĉe) "dict":=by ext b;let⟨o,ho,hc,_⟩:=x;ext a;exact ül
def pb.lt(x:Đm):d<úG:=by let⟨o,ho,_⟩:=x;exact ŉ ho
def pb.to(x:Đm)(hk:∀o,øJ d=Ă->ùn d=Ă):pb h' d es ep:=by let⟨o,ho,r⟩:=x;exact(o,hk o ho,r)
def K6(hd:Ć0)(x:ăt)(hQ:Q øV {s with heap:=ø0 {cls:=ĸ "dict_keyiterator",data:=ûu #[ĉe,ġO,.int øl 0,.int ep 0]} }):wpAny û A (pyIter (ĉe)) Q E s:=by let⟨o,go,gc,gd⟩:=id x;have T:=x.ty;refine wpAny_pyIter_slot T ıK (wpAny_call_entry ıK T PySem.F.entry_dict_iter ?_ (PySem.F.args_dict_iter_1 _));unfold Builtin.«dict.__iter__»;ext R;unfold Builtin.Dict.dictSlotNone;ext iU;show wpAny _ _ (pure (ü2 d)) _ _ s;ext aA;show wpAny _ _ (Ĳx d >>= _) _ _ s;unfold Ĳx;rw[if_neg (by rw[hd];ext aV)];ext Q;ext eq;ext es;refine wpAny_bind (wpAny_newObj_type (wpAny_pure (_,rfl,"dict_keyiterator",_,Ĝe,PySem.F.slot_dict_keyiterator_next.lookup,?_)));simpa[rawInt]using hQ
def K7[169][427](x:ăt)(hi:i<øl)(hQ:∀h',h'.IsKeyIter it d Ē øl ep->ıf->Q (some ĠS) Ţ):ĵX:=by
 ext b;ext hF;ext a;ext gR
 ext cr
 ext jg;ext Q;ext eq;ext cb;ext Q;ext es;ext cb;ext aA;simp only[ĭh,if_false,ú6,ĭw];ext R
 ext cr
 refine wpAny_bind (wpAny_isOneOf_keyiter T ?_);show wpAny _ _ (setField ùV 1 ĶG >>= _) _ _ s;ext iN;have go2:(ďV it (Ŀ3 (·.setIfInBounds 1 ĶG))).IsKeyIter it d Ē øl ep:=
  (_,ĆH _ ho (čC (Āp hf _)),Ĭr hc,by rw[Āp hf];simp[rawInt])
 ext mB;refine wpAny_bind (wpAny_isOneOf_keyiter go2.typeIs ?_);show wpAny _ _ (pure ĠS) _ _ _;exact wpAny_pure (wpAny_pure (_,rfl,wpAny_pure (hQ _ go2 (ĖM))))
def O![169][70][427](x:ăt)(hi:øl<=i)(hQ:∀h',Ĳz->Q none Ţ):ĵX:=by
 ext b;ext hF;ext a;ext gR
 ext cr
 ext jg;ext Q;ext eq;ext cb;ext Q;ext es;ext cb;ext aA;simp only[ĭh,if_false,ú6,ıC hi];ext R
 ext cr
 show wpAny _ _ (setField ùV 0 ė >>= _) _ _ s;ext iN;show wpAny _ _ (newExc (Ĵ8) [] >>= _) _ _ _;ext R;simp only[newExc,newTuple];ext gV;simp only[raiseNew];ext jL;rw[ĺM];ext iM;refine wpAny_bind (wpAny_isInstance Ĝe isSubtype_stop ?_);exact wpAny_pure (hQ _ īC)
def K8(es:ĕ6)[5](v:Vg):Prop:=(∃h:i<øl,v=ĠS)
theorem HD[70](I:Vi)(O?:d≠I):Walks prog w A I [I,d] [I] øl ġp (λi h=>h.IsKeyIter I d i øl ep/\Đm) where
 sub:=λb hb=>by rw[Ķ1]at hb;rw[hb];ext bF
 frame:=λ_ _ _ st hk=>(st.1.at λo e=>hk I ċ o e,st.2.to λo e=>hk d (š _ ċ) o e)
 item:=λi s Q E hi st hQ=>K7 st.1 st.2 hi λh' k1 k2=>
  hQ _ h' üu (hi,rfl) (k1,st.2.to λo e=>k2.extBut d o O? e) λb o hb e=>k2.extBut b o Ħ_ e
 done:=λs Q E st hQ=>O! hh st.1 st.2 ě λh' k=>hQ h' üu λb o hb e=>k b o Ħ_ e
 self:=λ_ _ _ _ st hQ=>wpAny_pyIter_keyiter st.1 hQ
theorem Pa(lo:Ć0):KdlSrc prog w "dict" d d øl ġp (λh=>Đm) where
 type:=λ_ x=>x.ty
 there:=λ_ x=>(x.lt,x.lt)
 keep:=λ_ _ x hk=>x.to λo e=>hk d út o e
 notList:=øi
 notTuple:=øi
 hint:=λ_ _ _ _ x q=>kdl_hint_dict x.ty q
 iter:=λ_ _ hh x=>(_,_,(λ_ _ q=>K6 lo x q),HD hh _ (œ x.lt),(Ār,x.to λo e=>þ6))
open e
section
variable[18]{d:Vi}[187]
def Pb{acc:Ů}(h:ItemsOf ġp acc øl):ğd=ıT:=by
 apply Ěc
 .rw[Ĩ,č,Ĩ];exact h.1
 .intro i h1 h2;have hi:i<acc.size:=by rw[Ĩ]at h1;ext an
  let⟨hz,e⟩:=h.2 i acc[i] (ĭw);rw[Ć8,ćF,Ć8,e]
open e
def lexLt:Vb->Vb->Bool
 |_,[]=>false
 |[],_::_=>true
 |úY,ą6=>ĖG
theorem d6:∀xs:Vb,ņi=false
 |[]=>rfl
 |úY=>by show(if x=x then ņi else _)=false;ext ae;exact d6 xs
def lg:∀{xs ys zs:Vb},þB=true->ņk=true->ņj=true:=by
 intro xs
 induction xs with
 |nil=>
  ext oC;cases zs with
  |nil=>cases ys<;>cases h2
  |cons z zs=>rfl
 |cons x xs ih=>
  ext oC;cases ys with
  |nil=>ext aL
  |cons y ys=>
   cases zs with
   |nil=>ext ab
   |cons z zs=>
    replace h1:(ĖG)=true:=h1;replace h2:(if y=z then ņk else decide (y<z))=true:=h2;show(if x=z then ņj else decide (x<z))=true;by_cases e1:x=y
    .rw[if_pos e1]at h1;subst e1;by_cases e2:x=z
     .rw[if_pos e2]at h2⊢;exact ih h1 h2
     .rw[if_neg e2]at h2⊢;ext ai
    .rw[if_neg e1]at h1;have h1':=of_decide_eq_true h1;by_cases e2:y=z
     .subst e2;rw[if_neg e1];ext an
     .rw[if_neg e2]at h2;have h2':=of_decide_eq_true h2;rw[Ŗ];exact ü'
def d7:∀[380],xs≠ys->þB=false->úH=true:=by
 intro xs
 induction xs with
 |nil=>
  intro ys h1 h2;cases ys with
  |nil=>exact absurd rfl h1
  |cons y ys=>ext ab
 |cons x xs ih=>
  intro ys h1 h2;cases ys with
  |nil=>rfl
  |cons y ys=>
   replace h2:(ĖG)=false:=h2;show(if y=x then úH else decide (y<x))=true;ext gs
   .ext l;rw[Ī]at h2⊢;exact ih (λz=>h1 ŁI) h2
   .rw[ün]at h2;rw[if_neg (λz=>e øP)];have:=of_decide_eq_false h2;exact ü'
def fq(h:þB=true):úH=false:=by
 cases z:úH with
 |false=>rfl
 |true=>
  have:=lg h z;rw[d6]at this;ext bx
section
variable[18]
def UO{fin:Bool}{Q:ďQ}:∀{us vs:Vc}[380][5],ĿY->IntsAre vs ys->fin=decide (į<û7)->đL ->
  KatLex prog w A true fin Q (us.zip vs) i s:=by
 intro us vs xs ys i h1
 induction h1 generalizing vs ys i with
 |nil=>
  intro h2 hf h;refine ğr;cases h2 with
  |nil=>rw[hf];ext j
  |cons n t r=>rw[hf];ext j
 |cons n t r ih=>
  intro h2 hf h;cases h2 with
  |nil=>
   refine ğr;rw[hf];ext j
  | @cons m u oV ys' r2=>
   refine ŃC;rename_i sG xs';replace h:Q (if n=m then lexLt xs' ys' else decide (n<m)) s:=h;by_cases e:n=m
   .ext l;ext bT;refine kat_yes (ih Ē r2 ?_ ?_)
    .rw[hf];simp only[ă,Nat.add_lt_add_iff_right]
    .rw[Ī]at h;ext j
   .rw[ċ0];rw[ün]at h;refine kat_no ?_;by_cases hi:i=0
    .subst hi;exact oneLt_int h
    .rw[show(true&&i==0)=false by rw[Ĉa];exact ú2 hi];exact ıX
def fQ[15](v:Vg)(xs:Vb):Prop:=(Ĥb/\∃a o aE n,úT/\ýJ/\ýu /\ ĎN/\IntsAre ýE xs)
def fQ.to{v:Vg}(t:fQ h v xs)[323]:fQ h' v xs:=by let⟨ne,a,o,aE,n,e,ho,hc,r⟩:=t;exact(ne,a,o,aE,n,e,Ńv,hc,r)
def aco[371][453](h:đL):wpAny û A (keyLt' (tuples' true) x y) Q E s:=by ext b;ext hC;ext a;refine kat_lt ho hd oG hd2 (UO 0 hi Cv ?_ h);rw[<-ĠV,<-Cv.length,Ĩ,Ĩ]
open e
open e _F
namespace _G
section
variable(le:Đn)
def Pc(l:ř):Prop:=(l.Pairwise le)
structure HE(Nh out A B:ř):Prop where
 pm:(out++ģa).Perm Nh
 so:Pc le out
 sa:Pc le A
 sb:Pc le B
 oa:∀x∈out,ļI
 ob:∀x∈out,ĚU
variable{le}{Nh out A B:ř}
def HE.swap[463]:HE le Nh out B A:=
 ((Ęn _ List.perm_append_comm).trans h.pm,h.so,h.sb,h.sa,h.ob,h.oa)
def HE.a{A1 A2:ř}(h:HE le Nh out (A1++A2) B)(l:∀x∈A1,ĚU):HE le Nh (out++A1) A2 B:=by
 have sa:=List.pairwise_append.mp h.sa;refine(?_,ĂH (h.so,sa.1,λx hx y hy=>h.oa x hx y (Ću _ hy)),sa.2.1,h.sb,ûa,ûa)
 .have:=h.pm;rwa [Į,<-Į out A1]at this
 .ext ms
  .exact h.oa x hx y (üX _ hy)
  .exact sa.2.2 x hx y hy
 .ext ms
  ext mT
  .exact l x hx y hy
def HE.b{B1 B2:ř}(h:HE le Nh out A (B1++B2))(l:∀x∈B1,ļI):HE le Nh (out++B1) A B2:=(h.swap.a l).swap
def HE.fin[463](l:∀x∈A,ĚU):(out++A++B).Perm Nh/\Pc le (out++A++B):=by
 refine(by rw[Į];exact h.pm,?_);rw[Į];refine ĂH (h.so,ĂH (h.sa,h.sb,l),ûa);ext fw
 .exact h.oa x hx y hy
 ext mT
open e
section
variable(r:α->Nat)
def K[251][5]:Nat:=((xs[i]?).elim 0 r)
def Up[251](lo hi:Nat):Prop:=(∀i j,lo<=i->i<j->j<hi->ĄE<=ġ6)
def Dn[251](lo hi:Nat):Prop:=(∀i j,lo<=i->i<j->j<hi->ġ6<=ĄE)
abbrev rle:Đn:=λx y=>ĄL
abbrev rge:Đn:=λx y=>Ē9
def cC[251][239]:ř:=(Ľg (j-i))
variable{r}{xs ys:ďl}
def gr{x:α}(h:ûk):ĄE=r x:=by ext aZ;rw[h];rfl
def lE(hj:j<=úe):(Ąq).length=j-i:=by ext aJ;rw[þv,ćG,Ĩ];ext c
def gI:(Ąq)[k]?=if k<j-i then xs[i+k]? else none:=by ext aJ;rw[List.getElem?_take,ĶY,Āi]
def bz{x:α}(h:x∈Ąq):∃k,i<=k/\k<j/\xs[k]?=ī:=by
 let⟨k,hk⟩:=List.getElem?_of_mem h;rw[gI]at hk;split at hk
 .exact(i+k,ø,ø,hk)
 .ext L
def cE(h1:i<=j)(h2:j<=k)(hk:k<=úe):cC xs i k=Ąq++cC xs j k:=by
 apply Ďt;intro n;rw[List.getElem?_append,lE ø,gI,gI,gI];by_cases c:n<j-i
 .rw[ām,øj,ām]
 .rw[ĄI];by_cases d:n<k-i
  .rw[Ģw,øj];congr 1;ext c
  .rw[Ģv,Ŗ]
def pe{x:α}(h:ûk):cC xs i Ē=[x]:=by
 apply Ďt;intro n;rw[gI];cases n with
 |zero=>rw[øj];ext j
 |succ n=>rw[Ŗ];rfl
def Bi(h:j<=i):Ąq=[]:=by ext aJ;rw[show j-i=0 by ext c];rfl
def eM:cC xs 0 úe=xs.toList:=by ext aJ;rw[ĀC,ăG,<-Ĩ,List.take_length]
def aL:(xs.extract i j).toList=Ąq:=by rw[Array.toList_extract];ext aJ;rw[List.extract_eq_take_drop]
def Up.rS[90](h:Ĉf):łW:=by
 unfold Pc;rw[įq];intro i j h1 h2 hij;have e1:=ħ h1;have e2:=ħ h2;rw[gI]at e1 e2;split at e1
 .split at e2
  .have:=h Ĕg (lo+j) ø ø ø;rw[gr e1,gr e2]at this;ext n
  .cases e2
 .cases e1
def UP[90](h:łW)(hz:hi<=úe):Ĉf:=by
 intro i j h1 h2 h3;have q1:i-lo<Ľi:=ĴZ
 have q2:j-lo<Ľi:=ĴZ
 have:=(Ćx h) ģc (j-lo) q1 q2 ø;have e1:=ħ q1;have e2:=ħ q2;rw[gI,øj,Į4]at e1;rw[gI,øj,show lo+(j-lo)=j by ext c]at e2;rw[gr e1,gr e2];ext n
def Up.le[90](h:Ĉf)(h1:lo<=i)(h2:i<=j)(h3:j<hi):ĄE<=ġ6:=by
 rcases øI i j with q|q
 .exact h i j h1 q h3
 .rw[show i=j by ext c];ext K
def Up.sub{lo hi lo' N_:Nat}(h:Ĉf)(h1:lo<=lo')(h2:N_<=hi):Up r xs lo' N_:=λi j a b c=>h i j ø b ø
def Up.rev[90](h:Ĉf):Pc (rge r) (Ę8).reverse:=įr h.rS
theorem Bj:∀(m:ř)(k sa:Nat)[251],sa+k+ĄK<=úe ->
  ((m.zipIdx k).foldl ħP xs).toList=ďy ēo++m++Ďo (sa+k+ĄK)
 |[],k,sa,xs,_=>by ext ad;exact(ĲD _ _).symm
 |x::m,k,sa,xs,h=>by
  rw[Ĺ9,Ěw,Bj m øe sa _ (by rw[į8];simp only[ă]at h;ext c)];simp only[ă]at h⊢;rw[ĮD,<-ďR,List.take_set,List.drop_set_of_lt ø];have hl:sa+k<xs.toList.length:=by rw[Ĩ];ext c
  rw[List.take_succ_eq_append_getElem hl];have e:(ďy ēo).length=sa+k:=ĸr
  rw[ĩB _ _ ø,e,úu];simp only[þt,Į,List.singleton_append,ú',Ž];rw[show sa+k+1+ĄK=sa+k+(ĄK+1) by ext c]
def K_{m:ř}{sa:Nat}{xs:ďl}(h:sa+ĄK<=úe):
  ((m.zipIdx).foldl ħP xs).toList=ďy sa++m++Ďo (sa+ĄK):=Bj m 0 sa xs h
def HF:ďy i=cC xs 0 i:=by ext aJ;rw[ĀC,ăG]
def HG:Ďo i=cC xs i úe:=by ext aJ;rw[ÿ'];rw[ćG,Ĩ];ext K
open e
open e _G
variable {a:Addr}
variable {ob oa:Obj}
namespace _G
open PyProof.Rows
def Pd:Bool->Keyed->Ļ->Nat->Nat->Nat->StateT SortSt Sem (ă4):=(sortPriv% PySem.Builtin.gallop)
def Bk:īy:=(sortPriv% PySem.Builtin.mergeLo)
def Bl:īy:=(sortPriv% PySem.Builtin.mergeHi)
section
variable[154][287]
def HI[297][27](A:Vj)(s:Vh)(κ:SortKind)(S:ŅL)[196]:Prop:=(
 ∀(x y:Keyed)(Q:ďQ),S x->S y->Q (ė1) s->wpAny û A (keyLt' κ x.1 y.1) Q (Ĉz) s)
def lt_[55]{x y:Keyed}[221][161][454]:
  wpS û A E s (lt' x y) Q st:=by
 rw[lt'_eq];ext aF;rw[hk];refine wpS_bind (wpS_lift (wpAny_attempt (wpAny_mono (C x y (λc s'=>c=ė1/\s'=s) hx hy ÿe) (λc s' q=>(q.2,?_)) λ_ _ q=>ąw)));rw[q.1];exact ğG
def dY{xs:Ļ}[244]{Q:Keyed->ûS}(e:ûk)(h:Q x st):wpS û A E s (elem' xs i) Q st:=by rw[elem'_eq,e];exact ğG
def acp[55]{x y:Keyed}[221][161](e1:ĝn[i]?=ī)(e2:ĝn[j]?=ûE)[454]:
  wpS û A E s Ŀg Q st:=by
 exact wpS_bind (wpS_get (wpS_bind (dY e1 (wpS_bind (dY e2 (lt_ C hk hx hy h))))))
def v8(left:Bool)(k n:Nat):Bool:=(if left then decide (n<k)else !(decide (k<n)))
def K![286][178](h:n<=m)(hb:ĝ3=true):ņF=true:=by
 unfold v8 at *;cases left
 ext mX
 ext mX
def UQ[286][178](h:n<=m)(hb:ņF=false):ĝ3=false:=by
 cases z:ĝ3 with
 |false=>rfl
 |true=>rw[K! h z]at hb;cases hb
def at_of{xs:Ļ}(h:i<úe):∃x,ûk/\x∈xs/\ĄE=r x:=(xs[i],Ĵ1,Array.getElem_mem h,gr (Ĵ1))
def aem[55][286]{key:Keyed}{xs:Ļ}[221][161][467](hi:i<úe)(h:Q (some (v8 left (r key) (ĄE))) st):
  wpS û A E s (elem' xs i >>= ĥV) Q st:=by
 ext b;let⟨x,e,m,ek⟩:=at_of hi;rw[ek]at h;ext a;refine wpS_bind (dY e ?_);cases left with
 |true=>exact lt_ C hk (hS x m) hy h
 |false=>exact wpS_bind (lt_ C hk hy (hS x m) (ğG))
def mR[55][286]{key:Keyed}{xs:Ļ}{base n hint:Nat}{Q:ă4->ûS}[161][467](hz:base+n<=úe)(hh:hint<n)(up:Up r xs base (base+n))(h:∀k,k<=n->(∀i,i<k->ĖA=true)->(∀i,k<=i->i<n->ĖA=false)->Q (ō) st):
  wpS û A E s (Pd left key xs base n hint) Q st:=by
 ext b;obtain⟨b,eb⟩:∃b:Nat->Bool,∀i,b i=ĖA:=(_,ù')
 have lo_:∀i j,i<=j->j<n->b j=true->Ģj:=λi j a c d=>by rw[eb]at d⊢;exact K! Ĳr d
 have hi_:∀i j,i<=j->j<n->ĠL->b j=false:=λi j a c d=>by rw[eb]at d⊢;exact UQ Ĳr d
 have ask:∀[64][221],i<n->Q (some (b i)) st->wpS û A E s (elem' xs (base+i) >>= ĥV) Q st:=by intro i Q hi q;rw[eb]at q;exact aem C hk hS hy ø q
 simp only[<-eb]at h;ext a;refine wpS_bind (ask hh ?_);ext d;cases c:b hint with
 |true=>
  refine wpS_bind (wpS_mono (wpS_forRange (I:=λx z ay=>ąZ/\∃l o,ĎS/\x+1<=o/\l<o/\Ċp<n/\Ńj) (Q:=λz ay=>ąZ/\∃l o,ĎS/\l<o/\Ċp<n/\Ńj/\(o<n-hint->b ğ1=false)) ?_ ?_ (rfl,0,1,rfl,ø,ø,ÿs,c)) ?_)
  .ext dm;ext b;let⟨e,l,o,rfl,h1,h2,h3,h4⟩:=aP;ext a;rw[e];ext d;by_cases q:o ≥ n-hint
   ext hG
   .ext cB;cases d:b ğ1 with
    |true=>ext iP
    |false=>ext iY
  .intro z ay oH;ext b;let⟨e,l,o,rfl,h1,h2,h3,h4⟩:=oH;ext a;exact Ĩ9
  .ext dL;ext b;let⟨e,l,o,rfl,h2,h3,h4,h5⟩:=yU;ext a;rw[e];ext b;let⟨lo,hlo⟩:=NE (Ċp+1)
   let⟨hi,hhi⟩:=NE (hint+min o (n-hint))
   ext a;ext kj
   ext nZ
   have g3:ęc:=λi q=>lo_ i (Ċp) ø h3 h4;have g4:ėt:=λi q q2=>hi_ ğ1 i ø q2 (h5 ø);ext gQ
   .intro x z ay _ hx yV;ext b;let⟨e,lo,hi,rfl,h1,h2,h3,h4,h5⟩:=yV;ext a;rw[e];ext d;ext nu
    .rw[üx];ext dy
     ext r;ext jH
    .ext cB;cases d:b ĶE with
     |true=>ext hI
     |false=>ext hH
   .ext dK;ext b;let⟨e,lo,hi,rfl,h1,h2,h3,h4,h5⟩:=Hm;ext dy
    ext r;ext a;exact Ĳj
   .ext gD;ext b;let⟨e,k,rfl,h1,h2,h3⟩:=K?;ext a;ext kk
 |false=>
  refine wpS_bind (wpS_mono (wpS_forRange (I:=λx z ay=>ąZ/\∃l o,ĎS/\x+1<=o/\l<o/\l<=hint/\Ņ6) (Q:=λz ay=>ąZ/\∃l o,ĎS/\l<o/\l<=hint/\Ņ6/\(o<Ĕw->b ğ2=true)) ?_ ?_ (rfl,0,1,rfl,ø,ø,ø,c)) ?_)
  .intro x z ay _ hx Pe;ext b;let⟨e,l,o,rfl,h1,h2,h3,h4⟩:=Pe;ext a;rw[e];by_cases q:o ≥ Ĕw
   ext hG
   .ext cB;cases d:b ğ2 with
    |true=>ext iY
    |false=>ext iP
  .ext ce;ext b;let⟨e,l,o,rfl,h1,h2,h3,h4⟩:=Pf;ext a;exact Ĩ9
  .ext gE;ext b;let⟨e,l,o,rfl,h2,h3,h4,h5⟩:=UR;ext a;rw[e];ext b;let⟨lo,hlo⟩:=NE (Ĕw-min o (Ĕw))
   let⟨hi,hhi⟩:=NE Ĝ_
   ext a;ext kj
   ext nZ
   have g3:ęc:=λi q=>lo_ i ğ2 ø ø (h5 ø);have g4:ėt:=λi q q2=>hi_ Ĝ_ i ø q2 h4;ext gQ
   .intro x z ay _ hx aen;ext b;let⟨e,lo,hi,rfl,h1,h2,h3,h4,h5⟩:=aen;ext a;rw[e];ext d;ext nu
    .rw[üx];ext dy
     ext r;ext jH
    .ext cB;cases d:b ĶE with
     |true=>ext hI
     |false=>ext hH
   .intro z ay aeo;ext b;let⟨e,lo,hi,rfl,h1,h2,h3,h4,h5⟩:=aeo;ext dy
    ext r;ext a;exact Ĳj
   .intro z ay aep;ext b;let⟨e,k,rfl,h1,h2,h3⟩:=aep;ext a;ext kk
open e
section
variable[154][287]
abbrev Gs(st:SortSt)(g:Nat):SortSt:=þ8 (kindOf st) ĝn (pendingOf st) g (failedOf st)
def cZ[342]{m1 m2:čO}[285][35](h1:c->Ĵ4)(h2:¬c->Ĵ5):wpS M A E s (if c then m1 else m2) Q st:=by
 by_cases q:c
 .rw[üx];exact h1 q
 .rw[ýR];exact h2 q
def b?{x y:Nat}{m1 m2:čO}[285][35](h1:x=y->Ĵ4)(h2:x≠y->Ĵ5):wpS M A E s (if(x==y)=true then m1 else m2) Q st:=
 cZ (λq=>h1 (ùs q)) λq=>h2 λz=>q (ăc z)
def E9{c:Ġv}[∀n,Decidable (c n)]{m1 m2:Nat->čO}[285][35](f:Nat->Nat)(e1:∀n,m1 n=m2 (f n))(h:∀n,wpS M A E s (m2 n) Q st)[7]:wpS M A E s (if c n then m1 n else m2 n) Q st:=
 cZ (λ_=>by rw[e1];exact h _) λ_=>h _
def tW[342]{y1:Ļ}{y2:Nat}{m1 m2:Ļ->Nat->čO}[285][35](I:Ļ->Ġv)(h2:¬c->I y1 y2)(h1:c->(ĩJ)->wpS M A E s (m1 y1 y2) Q st)(h:ĩJ)(o:Ļ)(eo:y1=o)[5](ei:y2=i):wpS M A E s (if c then m1 o i else m2 o i) Q st:=by subst eo ei;exact cZ (λq=>h1 q h) λq=>h _ _ (h2 q)
def Good[196](a b m:Ļ):Prop:=(m.toList.Perm čH/\Pc ĞN m.toList)
structure Mm[196](a b out:Ļ)(ia ib:Nat):Prop where
 la:ia<=Ŏ
 lb:ib<=øa
 me:HE ĞN čH ğu (cC a ia Ŏ) (cC b ib øa)
section
variable{a b out:Ļ}{ia ib:Nat}[274]
include ua ub
def Mm.as_[193][22](hk:ia+k<=Ŏ)(l:Ĕy->∀i,i<k->K r a (ia+i)<=K r b ib):Mm r a b ıx Ĕf ib:=by refine(hk,h.lb,?_);ext jc;refine m.a ûa;ext cx;show ĄL;ext bd;have:=l ø (i-ia) ø;rw[show ia+(i-ia)=i by ext c]at this;exact ģ this (ub.le ûH j1 j2)
def Mm.bs_[193][22](hk:ib+k<=øa)(l:ia<Ŏ->∀i,i<k->K r b (ib+i)<=K r a ia):Mm r a b (out++ÿg ib (ib+k)) ia (ib+k):=by refine(h.la,hk,?_);ext jc;refine m.b ûa;ext cx;show ĄL;ext bd;have:=l ø (i-ib) ø;rw[show ib+(i-ib)=i by ext c]at this;exact ģ this (ua.le ûH j1 j2)
def Mm.a1[193][244](e:a[ia]?=ī)(l:Ĕy->r x<=K r b ib):Mm r a b Ĕ0 (ia+1) ib:=by
 have hz:ia<Ŏ:=ń0;have q:=h.as_ ua ub 1 hz λz i hi=>by rw[show ia+i=ia by ext c,gr e];exact l z
 have:(out++ÿb ia (ia+1))=ćR:=Ĭ9
 ext dH
def Mm.b1[193][244](e:b[ib]?=ī)(l:ia<Ŏ->r x<=K r a ia):Mm r a b Ĕ0 ia (ib+1):=by
 have hz:Ĕy:=ń0;have q:=h.bs_ ua ub 1 hz λz i hi=>by rw[show ib+i=ib by ext c,gr e];exact l z
 have:(out++ÿg ib (ib+1))=ćR:=Ĭ9
 ext dH
omit ua ub in
def Mm.done[193](l:ia=Ŏ\/ib=øa):Good r a b (out++ÿb ia++ÿg ib):=by ext lt;refine Ģs ûa;ext cx;ext c
omit ua in
def Mm.last[193](l:ia+1=Ŏ)(hl:ĭy):Good r a b (out++ÿg ib++ÿb ia):=by ext lt;refine h.me.swap.fin ûa;ext cx;show ĄL;rw[<-ĜR,<-ĜS,show j=Ŏ-1 by ext c];exact ģ ĵR hl
open e
def K'[55]{a b:Ļ}{Q:Ļ->ûS}[161][449][274][392]:
  wpS û A E s (Bk a b) Q st:=by
 unfold Bk;ext bJ;ext b;let⟨y0,e0,m0,k0⟩:=at_of (r:=r) (xs:=b) (i:=0) ø;ext a;ext lC;ext d;have M0:Mm r a b #[] 0 0:=(ùM,ùM,by
  rw[eM,eM];exact(ĂN,þl,by rw[<-eM];exact ua.rS,by rw[<-eM];exact ub.rS,čc,čc))
 have M1:Mm r a b #[y0] 0 1:=M0.b1 ua ub e0 λ_=>by rw[<-k0];exact h0
 refine b? (λq=>wpS_pure (h _ Ĕ7 (M1.done ğR))) λq1=>?_;refine b? (λq=>wpS_pure (h _ Ĕ7 (M1.last ub q hl))) λq2=>?_;ext aF;refine wpS_bind (wpS_mono (wpS_forRange (I:=λx z ay=>ú8/\∃out ia ib mg,z=(none,out,ia,ib,mg)/\ĥs/\ia+1<Ŏ/\Ĕy/\x<ia+ib)
  (Q:=ĺY) ?_ ?_ (ń5,_,0,1,_,rfl,M1,ø,ø,ø)) ?_)
 .ext dm;ext b;let⟨āg,out,ia,ib,mg,rfl,m,l1,l2,l3⟩:=aP;ext a;ext d;refine wpS_bind (wpS_mono (wpS_forRange (I:=λx' z ay=>ú8/\∃out sI tX c1 c2,z=į0/\Ķ3/\sI+1<Ŏ/\tX<øa/\ia+ib+x'<=sI+tX)
   (Q:=λz ay=>ú8/\(Ĕ'\/∃out sI tX c1 c2,z=į0/\ĥb)) ?_ ?_ (üL,out,ia,ib,0,0,rfl,m,l1,l2,ø)) ?_)
  .ext mJ;ext b;let⟨āg,out,sI,tX,c1,c2,rfl,m,l1,l2,l3⟩:=oH;ext a;ext d;ext b;ext jK;let⟨z,ez,mz,kz⟩:=at_of (r:=r) (xs:=a) (i:=sI) ø;ext a;ext jx
   ext hA;ext bl
   .have m2:=m.b1 ua ub ey λ_=>by rw[kz];have:=ýc;ext c
    ext bQ;refine b? (λq=>wpS_pure (üL,ī6)) ĄR;exact ĥd
   .have m2:=m.a1 ua ub ez λ_=>by rw[ky];ext iv;ext c
    ext lD;refine b? (λq=>wpS_pure (üL,.inl (_,_,rfl,m2.last ub q hl))) ĄR;exact ĥe
  .intro z bP yU;ext b;let⟨e,out,sI,tX,c1,c2,rfl,m,l1,l2,l3⟩:=yU;ext a;exact(e,.inr (out,sI,tX,c1,c2,rfl,m,l1,l2,ø))
  .rintro z bP ⟨e,⟨m,y,rfl,gd⟩|⟨out,ia1,ib1,c1,c2,rfl,m,l1,l2,l4⟩⟩
   ext kx
   .ext d;ext bJ;refine wpS_bind (wpS_mono (wpS_forRange (I:=λx' z ay=>ú8/\ħg)
     (Q:=λz ay=>ú8/\(Ĕ'\/ħg)) ?_ ?_ (e,out,ia1,ib1,_,c1,c2,rfl,m,l1,l2,ÿs)) ?_)
    .ext mK;ext b;let⟨āg,out,ia,ib,mg,c1,c2,rfl,m,l1,l2,l3⟩:=yV;ext a;ext d;ext b;ext jK;ext gZ
     ext a;revert mg;ext gW;have mk:=m.as_ ua ub k ø λ_ i hi=>by have:=k2 i hi;ext dY;ext c
     have nx:ia+k<Ŏ->r y<=K r a Ĕf:=λz=>by ext oa;ext ea;ext c
     ext nw;generalize ei:ia=i';ext ds;apply tW (λo i=>Mm r a b o i ib/\(i<Ŏ->r y<=ģA)/\i+1<Ŏ/\ia<=i);exact(λqk=>(m,by rw[show k=0 by ext c,ûg]at nx;exact nx,l1,ł));exact(λqk H=>b? (λq=>wpS_pure (ę,.inl (_,_,rfl,mk.last ub q hl))) λq1=>b? Ħ5 λq2=>H ıx Ĕf ķP);intro UW ia1 Hm;ext b;let⟨mk,nx,l4,l0⟩:=Hm;have m2:=mk.b1 ua ub ey nx;ext a;ext bQ;refine b? (λq=>wpS_pure (ę,ī6)) ĄR;ext b;let⟨x1,ex,mx,kx⟩:=at_of (r:=r) (xs:=a) (i:=ia1) ø;ext a;ext hs;have mj:=m2.bs_ ua ub j ø λ_ i hi=>by have:=j2 i hi;ext el;ext c
     have nj:ib+1+j<øa->r x1<=K r b (ib+1+j):=λz=>by have:=j3 j ě ø;ext eh;ext c
     ext lu;generalize ei:ib+1=i';ext ds;apply tW (λo i=>Mm r a b o ia1 i/\(i<øa->r x1<=ģB)/\i<øa/\ib<i);exact(λqj=>(m2,by rw[ķi,ûg]at nj;exact nj,ø,ø));exact(λqj H=>b? Ħ4 λq4=>Ĳy);intro aeq ib3 K?;ext b;ext mm;have m3:=mj.a1 ua ub ex nj;ext a;ext ff;refine b? (λq=>wpS_pure (ę,.inl (_,_,rfl,m3.last ub q hl))) λq5=>?_;exact ĥc
    .intro z kG Pe;ext b;let⟨e,out,sI,tX,mg,c1,c2,rfl,m,l1,l2,l3⟩:=Pe;ext a;exact(e,.inr (out,sI,tX,mg,c1,c2,rfl,m,l1,l2,l3))
    .rintro z kG ⟨⟨g,e⟩,⟨m,y,rfl,gd⟩|⟨out,ia1,ib1,mg,c1,c2,rfl,m,l1,l2,l4⟩⟩
     ext jR
     ext hx
 .ext ce;ext b;let⟨e,out,ia,ib,mg,rfl,m,l1,l2,l3⟩:=Pf;ext a;ext c
 ext ht
open e
section
variable[154][287]
structure Mh[196](a b out:Ļ)(na nb:Nat):Prop where
 la:na<=Ŏ
 lb:nb<=øa
 me:HE (rge r) čH ğu Ĳf Ĳg
section
variable{a b out:Ļ}{na nb:Nat}[274]
include ua ub
def Mh.as_[192](hk:k<=na)(l:0<nb->∀i,k<=i->i<na->K r b Ĕi<=ģA):Mh r a b (out++(ÿb k na).reverse) k nb:=by ext lL;refine(ø,h.lb,?_);have m:=h.me;rw[cE ø hk h.la,č3]at m;rw[ü0,Ćt,aL];refine m.a ûa;ext b;ext ct;ext a;show Ē9;ext bd;exact ģ ĵR ķO
def Mh.bs_[192](hk:k<=nb)(l:0<na->∀i,k<=i->i<nb->K r a Ĕh<=ģB):Mh r a b (out++(ÿg k nb).reverse) na k:=by ext lL;refine(h.la,ø,?_);have m:=h.me;rw[cE ø hk h.lb,č3]at m;rw[ü0,Ćt,aL];refine m.b ûa;ext ct;show Ē9;ext bd;exact ģ (ua.le ûH ø ø) ķO
def Mh.a1[192](hn:0<na)[244](e:a[na-1]?=ī)(l:0<nb->K r b Ĕi<=r x):Mh r a b Ĕ0 Ĕh nb:=by
 have q:=h.as_ ua ub (k:=na-1) ø λz i i1 i2=>by rw[show i=na-1 by ext c,gr e];exact l z
 have:(out++(ÿb Ĕh na).reverse)=ćR:=by ext bO;have e2:=pe e;rw[show na-1+1=na by ext c]at e2;ext ja
 ext dH
def Mh.b1[192](hn:0<nb)[244](e:b[nb-1]?=ī)(l:0<na->K r a Ĕh<=r x):Mh r a b Ĕ0 na Ĕi:=by
 have q:=h.bs_ ua ub (k:=nb-1) ø λz i i1 i2=>by rw[show i=nb-1 by ext c,gr e];exact l z
 have:(out++(ÿg Ĕi nb).reverse)=ćR:=by ext bO;have e2:=pe e;rw[show nb-1+1=nb by ext c]at e2;ext ja
 ext dH
omit ua ub in
def Mh.done[192](l:na=0\/nb=0):Good r a b (ÿb 0 na++ÿg 0 nb++ņs):=by
 ext kw;have f:=Ģs λx hx y hy=>by ext ct;ext c
 have e:ĠO++ĠP++ķg=Ħc:=by
  ext hv;rcases l with z|z
  ext mW
  ext mW
 ext il
omit ub in
def Mh.first[192](l:nb=1)(h0:Ěb):Good r a b (ÿg 0 nb++ÿb 0 na++ņs):=by
 have la:=h.la;ext kw;have f:=Ģs λx hx y hy=>by ext ct;show Ē9;rw[<-ĜR,<-ĜS,ķi];exact ģ h0 (ua.le ě ûH ø)
 have e:ĠP++ĠO++ķg=Ħc:=by ext hv
 ext il
open e
def La[55]{a b:Ļ}{Q:Ļ->ûS}[161][449][274][392]:
  wpS û A E s (Bl a b) Q st:=by
 unfold Bl;ext bJ;ext b;let⟨y0,e0,m0,k0⟩:=at_of (r:=r) (xs:=a) (i:=Ŏ-1) ø;ext a;ext lC;ext d;have M0:Mh r a b #[] Ŏ øa:=(ł,ł,by
  rw[eM,eM];exact((ĆC).append (ĆC),þl,by rw[<-eM];exact ua.rev,by rw[<-eM];exact ub.rev,čc,čc))
 have M1:Mh r a b #[y0] ġH øa:=M0.a1 ua ub ø e0 λ_=>by rw[<-k0];exact hl
 refine b? (λq=>wpS_pure (h _ Ĕ7 (M1.done ĉn))) λq1=>?_;refine b? (λq=>wpS_pure (h _ Ĕ7 (M1.first ua q h0))) λq2=>?_;ext aF;refine wpS_bind (wpS_mono (wpS_forRange (I:=λx z ay=>ú8/\∃na nb out mg,z=(none,na,nb,out,mg)/\ĥr/\0<na/\1<nb/\x+na+nb<Ŏ+øa)
  (Q:=ĺY) ?_ ?_ (ń5,_,_,_,_,rfl,M1,ø,ø,ø)) ?_)
 .ext dm;ext b;let⟨āg,na,nb,out,mg,rfl,m,l1,l2,l3⟩:=aP;ext a;ext d;refine wpS_bind (wpS_mono (wpS_forRange (I:=λx' z ay=>ú8/\∃sJ sL out c1 c2,z=į1/\Ķ2/\0<sJ/\1<sL/\sJ+sL+x'<=ċM)
   (Q:=λz ay=>ú8/\(Ĕ'\/∃sJ sL out c1 c2,z=į1/\Ĩa)) ?_ ?_ (üL,na,nb,out,0,0,rfl,m,l1,l2,ø)) ?_)
  .ext mJ;ext b;let⟨āg,sJ,sL,out,c1,c2,rfl,m,l1,l2,l3⟩:=oH;ext a;ext d;ext b;ext lM;let⟨y,ey,my,ky⟩:=at_of (r:=r) (xs:=b) (i:=sL-1) ø;let⟨z,ez,mz,kz⟩:=at_of (r:=r) (xs:=a) (i:=sJ-1) ø;ext a;ext jx
   ext hA;ext d;ext bl
   .have m2:=m.a1 ua ub l1 ez λ_=>by rw[ky];have:=ýc;ext c
    ext lD;refine b? (λq=>wpS_pure (üL,.inl (_,_,rfl,m2.done ĉn))) ĄR;exact ĥe
   .have m2:=m.b1 ua ub ø ey λ_=>by rw[kz];ext iv;ext c
    ext bQ;refine b? (λq=>wpS_pure (üL,ī7)) ĄR;exact ĥd
  .intro z bP yU;ext b;let⟨e,sJ,sL,out,c1,c2,rfl,m,l1,l2,l3⟩:=yU;ext a;exact(e,.inr (sJ,sL,out,c1,c2,rfl,m,l1,l2,ø))
  .rintro z bP ⟨e,⟨m,y,rfl,gd⟩|⟨na1,nb1,out,c1,c2,rfl,m,l1,l2,l4⟩⟩
   ext kx
   .ext d;ext bJ;refine wpS_bind (wpS_mono (wpS_forRange (I:=λx' z ay=>ú8/\ĥm)
     (Q:=λz ay=>ú8/\(Ĕ'\/ĥm)) ?_ ?_ (e,na1,nb1,out,_,c1,c2,rfl,m,l1,l2,ÿs)) ?_)
    .ext mK;ext b;let⟨āg,na,nb,out,mg,c1,c2,rfl,m,l1,l2,l3⟩:=yV;ext a;ext d;ext b;ext lM;let⟨y,ey,my,ky⟩:=at_of (r:=r) (xs:=b) (i:=nb-1) ø;ext gZ
     ext a;revert mg;ext gW;ext d;simp only[Ť]at k2 k3;have mk:=m.as_ ua ub k1 λ_ i i1 i2=>by have:=k3 i i1 i2;ext ea;ext c
     have nx:0<k->K r a (k-1)<=r y:=λz=>by have:=k2 (k-1) ø;ext dY;ext c
     generalize ed:na-k=d;ext nw;generalize ei:na=i';ext ds;apply tW (λo i=>Mh r a b o i nb/\(0<i->K r a (i-1)<=r y)/\0<i/\i<=na);exact(λqk=>(m,by rw[show k=na by ext c]at nx;exact nx,l1,ł));exact(λqk H=>b? Ħ5 λq2=>H _ _ ķP);intro UW n1 Hm;ext b;let⟨mk,nx,kp,l0⟩:=Hm;have m2:=mk.b1 ua ub ø ey nx;ext a;ext bQ;refine b? (λq=>wpS_pure (ę,ī7)) ĄR;ext b;let⟨x1,ex,mx,kx⟩:=at_of (r:=r) (xs:=a) (i:=n1-1) ø;ext a;ext hs;ext d;simp only[Ť]at j2 j3;have mj:=m2.bs_ ua ub j1 λ_ i i1 i2=>by have:=j3 i i1 i2;ext eh;ext c
     have nj:0<j->K r b (j-1)<=r x1:=λz=>by have:=j2 (j-1) ø;ext el;ext c
     generalize ed2:nb-1-j=d2;ext lu;generalize ei:nb-1=i';ext ds;apply tW (λo i=>Mh r a b o n1 i/\(0<i->K r b (i-1)<=r x1)/\1<i/\i<nb);exact(λqj=>(m2,by rw[show j=nb-1 by ext c]at nj;exact nj,ø,ø));exact(λqj H=>b? (λq=>wpS_pure (ę,.inl (_,_,rfl,mj.first ua q h0))) λq4=>b? Ħ4 λq5=>Ĳy);intro aeq n2 K?;ext b;ext mm;have m3:=mj.a1 ua ub kp ex nj;ext a;ext ff;refine b? (λq=>wpS_pure (ę,.inl (_,_,rfl,m3.done ĉn))) λq5=>?_;exact ĥc
    .intro z kG Pe;ext b;let⟨e,sJ,sL,out,mg,c1,c2,rfl,m,l1,l2,l3⟩:=Pe;ext a;exact(e,.inr (sJ,sL,out,mg,c1,c2,rfl,m,l1,l2,l3))
    .rintro z kG ⟨⟨g,e⟩,⟨m,y,rfl,gd⟩|⟨na1,nb1,out,mg,c1,c2,rfl,m,l1,l2,l4⟩⟩
     ext jR
     ext hx
 .ext ce;ext b;let⟨e,na,nb,out,mg,rfl,m,l1,l2,l3⟩:=Pf;ext a;ext c
 ext ht
open e
def yO{X σ:ďl}{L M M' R:ř}(h1:ĒY=L++M++R)(h2:ġk=L++M'++R)(hl:M'.length=ġ8):
  ĐQ/\(∀j,j<ĉB\/ĉB+ġ8<=j->ĂX)/\cC σ ĉB (ĉB+ġ8)=M':=by
 refine(?_,λj hj=>?_,?_)
 .rw[<-Ĩ,<-Ĩ,h1,h2];simp only[Ď,hl]
 .rw[<-Āi,<-Āi,h1,h2];rcases hj with hj|hj
  .rw[Į,Į,øW hj,øW hj]
  .rw[úl (Ďw),úl (by ext ak;omega),Ď,Ď,hl]
 .ext aJ;rw[h2,Į,List.drop_left,Nat.add_sub_cancel_left,<-hl,List.take_left]
section
variable[154][287]
def Ph{Y:Type}[35]{st ay:Y}{Q:PUnit->Y->Prop}(h:Q ⟨⟩ ay):wpS M A E s (set ay:StateT Y Sem PUnit) Q st:=by unfold wpS;rw[StateT.run_set];exact wpAny_pure (rfl,h)
def Lb[55]{X:Ļ}{mg sa na p nb q:Nat}{L1 L2:ĄF}[356][160](hp:ņu=L1++ľO::ļK::L2)(hi:i=ĒC)(h1:0<na)(h2:0<nb)(hz:ýK<=ĵ)(u1:Up r X sa üU)(u2:Up r X üU ĉw)(h:∀σ pd g,øX->(∀j,j<sa\/ýK<=j->ĂX)->Up r σ sa ĉw->ļu->łZ):
  īb:=by
 have p1:pend[i]?=some ľO:=by rw[<-Āi,hp,hi,Ĥr,úu];rfl
 have p2:pend[i+1]?=some ļK:=by rw[<-Āi,hp,hi,ē_,ĩ0];rfl
 let⟨pd,epd⟩:=NE ((pend.setIfInBounds i ĬM).eraseIdxIfInBounds Ē)
 have hpd:ļu:=by rw[epd,Array.toList_eraseIdxIfInBounds,ĮD,hp,hi,ņR,úu,þt,List.eraseIdx_append_of_length_le ø,ĩ0];rfl
 unfold mergeAt';ext aF;ext d;rw[p1,p2];ext d;refine wpS_bind (Ph ?_);rw[<-epd];let⟨y,ey,my,ky⟩:=at_of (r:=r) (xs:=X) (i:=ûf) ø;ext bQ;refine wpS_bind (mR C rfl hS ńC ø h1 u1 ĺW);ext d;have lo:∀i,sa<=i->i<sa+k->ēA<=K r X üU:=λi i1 i2=>by have:=k2 (i-sa) ø;rw[show sa+(i-sa)=i by ext c]at this;ext dY;ext c
 refine b? Ħw λz=>?_
 .ext lB
  ext mU
  .ext fe
   .exact ģ (lo i a1 ø) (u2.le ě c a3)
   ext mV
 let⟨x,ex,mx,kx⟩:=at_of (r:=r) (xs:=X) (i:=ûf-1) ø;have em:sa+k+(na-k)-1=ûf-1:=ø
 rw[em];ext ff;refine wpS_bind (mR C rfl hS ńB (ÿs) ø u2 λm m1 m2 m3=>?_);ext d;have up:∀i,Ăd<=i->i<ýK->K r X (ûf-1)<=ēA:=λi i1 i2=>by have:=m3 (i-üU) ø ø;rw[show ûf+(i-üU)=i by ext c]at this;ext eh;ext c
 refine b? Ħw λz2=>?_
 .ext lB
  ext mU
  .ext fe
   .exact ģ (u1.le a1 ø (ÿs)) (up j ø a3)
   ext mV
 let⟨a,ea⟩:=NE (X.extract ēo üU)
 let⟨b,eb⟩:=NE (X.extract üU (Ăd))
 rw[<-ea,<-eb];have za:Ŏ=na-k:=by rw[ea,ĶU];ext c
 have zb:øa=m:=by rw[eb,ĶU];ext c
 have Ka:∀i,i<Ŏ->ģA=K r X (sa+k+i):=λi hi=>by ext aZ;rw[ea,īK,ĳ0]
 have Kb:∀i,i<øa->ģB=K r X (ûf+i):=λi hi=>by ext aZ;rw[eb,īK,ĳ0]
 have ua:ł4:=λi j _ a2 a3=>by rw[Ka i ø,Ka j a3];exact u1 _ _ ø ø ø
 have ub:ł5:=λi j _ a2 a3=>by rw[Kb i ø,Kb j a3];exact u2 _ _ ø ø ø
 have sa_:ńd:=λx hx=>by rw[ea,<-ĘI,aL]at hx;ext hZ
 have sb_:ńe:=λx hx=>by rw[eb,<-ĘI,aL]at hx;ext hZ
 have h0:Ěb:=by rw[Ka 0 ø,Kb 0 ø];ext oa;ext ea;rw[ûg,ûg];ext c
 have hl:ĭy:=by rw[Ka _ ø,Kb _ ø];have:=m2 Ĥy ø;ext el;rw[show sa+k+ġH=ûf-1 by ext c];ext c
 have fin:∀(HJ:Ļ)(g:Nat),Good r a b HJ->Q true (þ8 κ ĥL pd g none):=by
  intro HJ g gd;let⟨g1,g2⟩:=gd;have ll:HJ.toList.length=na-k+m:=by have:=g1.length_eq;rw[Ď,Ĩ (xs:=a),Ĩ (xs:=b)]at this;ext c
  let⟨σ,eY⟩:=NE ĥL
  rw[<-eY];have yl:=K_ (m:=HJ.toList) (sa:=sa+k) (xs:=X) ø;rw[<-eY,HF,HG,ll,show sa+k+(na-k+m)=Ăd by ext c]at yl;rw[cE (j:=sa) ø ø ø,cE (i:=Ăd) (j:=ýK) ø ø ø]at yl;have xl:ĒY=cC X 0 sa++Ğt++Ńk:=by rw[<-ăs,<-ăs,eM]
  have xm:Ğt=Ņ9++čH++cC X (Ăd) ĉw:=by rw[ea,eb,aL,aL,<-ăs,<-ăs,<-ăs]
  have yl':ġk=cC X 0 sa++(Ĩz)++Ńk:=by rw[yl];simp only[Į]
  have pm:(Ĩz).Perm (Ğt):=by rw[xm];exact(Ęn _ g1).append_right _
  let⟨r1,r2,r3⟩:=yO xl yl' pm.length_eq;rw[lE ø,lE ø,ăG,show sa+(ýK-sa)=ýK by ext c]at r2 r3;refine h σ pd g ?_ r2 (UP ?_ ø) hpd
  .rw[xl,yl'];exact(Ęn _ pm).append_right _
  .rw[r3];have mem:∀x∈HJ.toList,∃j,sa+k<=j/\j<Ăd/\X[j]?=ī:=λx hx=>by have:=g1.mem_iff.mp hx;rw[ea,eb,aL,aL,<-ăs]at this;exact bz this
   rw[Į];refine ĂH ((u1.sub ě ø).rS,ĂH (g2,(u2.sub ø ě).rS,ûa),ûa)
   .let⟨i,i1,i2,i3⟩:=mem x hx;ext lz;show ĄL;ext bd;ext fe
    .exact ģ (u1.le ø ø ø) (up j j1 j2)
    .exact u2.le d ø j2
   .let⟨i,i1,i2,i3⟩:=bz hx;have:∃j,sa+k<=j/\j<ýK/\X[j]?=ûE:=by
     ext fw
     .let⟨j,j1,j2,j3⟩:=mem y hy;exact(j,j1,ø,j3)
     .ext lz;exact(j,ø,ø,j3)
    let⟨j,j1,j2,j3⟩:=this;show ĄL;ext bd;rcases øI j üU with d|d
    .exact u1.le i1 ø d
    .exact ģ (lo i i1 i2) (u2.le ě d j2)
 refine cZ ċa ď_
 .exact wpS_bind (K' C rfl sa_ sb_ ua ub ø ø h0 hl ĥR)
 .exact wpS_bind (La C rfl sa_ sb_ ua ub ø ø h0 hl ĥR)
open e
def Di[196](xs:Ļ):Prop:=((ŀK r).Nodup)
section
variable{r:čy}{X σ:Ļ}
def Di.to(h:Ĕp)(p:øX):Di r σ:=(p.map r).ďT h
def Di.ne(h:Ĕp)(hi:i<ĵ)(hj:j<ĵ)(e:i≠j):ēA ≠K r X j:=by
 rw[gr (getElem?_pos X i hi),gr (getElem?_pos X j hj)];intro z;have li:i<Į':=by rw[č,Ĩ];exact hi
 have lj:j<Į':=by rw[č,Ĩ];exact hj
 refine e ((Ĺ6 (h₀:=li) (h₁:=lj) h).mp ?_);rw[ćF,ćF,Ć8,Ć8];ext o
def Rq(hj:j<=ĵ):K r (mirror X i j ((j-i) / 2)) k=if i<=k/\k<j then K r X (i+j-1-k)else K r X k:=by ext aZ;rw[getElem?_mirror_all hj];ext dR
def Rr{src d:Nat}(hs:src<ĵ)(hd:d<=src):K r (bubble X src d) k=if k=src-d then K r X src else if src-d<k/\k<=src then K r X (k-1)else K r X k:=by
 ext aZ;rw[getElem?_bubble hs d hd];split
 .rfl
 .ext dR
def Up.more{lo n:Nat}(h1:1<=n)(h:Ŀ6)(l:Ġs<=Ġr):Up r X lo (lo+ÿY):=λi j a b c=>by
 ext mi
 ext nV
 .rw[Ĳ4];exact ģ (h.le a ø ø) l
def Dn.more{lo n:Nat}(h1:1<=n)(h:ĿT)(l:Ġr<=Ġs):Dn r X lo (lo+ÿY):=λi j a b c=>by
 ext mi
 ext nV
 .rw[Ĳ4];rcases øI i Ě4 with z|z
  .exact ģ l (h i Ě4 a z ø)
  .rw[show i=ĔD by ext c];exact l
def Up.one{lo:Nat}:Up r X lo (lo+1):=λi j a b c=>ø
open e
section
variable[154]{mg:Nat}{X:Ļ}
def HK[55][221][160](hi:i<ĵ)(hj:j<ĵ)(h:Q (some (decide (ēA<K r X j))) Ċ8):
  wpS û A E s Ŀg Q Ċ8:=by
 ext b;let⟨x,ex,mx,kx⟩:=at_of hi;let⟨y,ey,my,ky⟩:=at_of hj;rw[kx,ky]at h;ext a;exact acp C rfl ex ey ńB ńC h
def UX[55]{lo lG:Nat}{Q:ă4->ûS}(h1:1<=lG)(hz:lo+lG<=ĵ)[160](hd:Ĕp)(h:∀n σ,1<=n->n<=lG->øX->Ĕ2->ćr->Q (āf) (ĕr)):
  wpS û A E s (countRun' lo lG) Q Ċ8:=by
 refine wpS_bind (wpS_mono (wpS_forRange (I:=λx z ay=>Ĕu/\ņP/\Up r X lo Ċt)
  (Q:=λz ay=>Ĕu/\∃n,ņO/\1<=n/\n<=lG/\Ŀ6/\(n<lG->Ġr<Ġs)) ?_ ?_ (rfl,rfl,Up.one)) ?_)
 .intro x z ay x1 hx aP;ext b;let⟨e,rfl,u⟩:=aP;ext a;rw[e];ext cF;refine cZ (λq=>wpS_pure (rfl,x,rfl,x1,ø,u,λ_=>ýc)) λq=>wpS_pure (rfl,rfl,u.more x1 ?_);ext hN;ext c
 .intro z ay oH;ext b;let⟨e,rfl,u⟩:=oH;ext a;rw[show max 1 lG=lG by ext c]at u⊢;exact(e,lG,rfl,h1,ł,u,λq=>absurd q úX)
 .ext dL;ext b;let⟨e,n,rfl,n1,n2,u,f⟩:=yU;ext a;rw[e];refine b? (λq=>Īz) Ċd;refine cZ (Ĥw) Ĥw
  .ext cF;ext d;have ne:=hd.ne (i:=lo) (j:=ĔD) ø ø ø;have le:=u.le ě (show lo<=ĔD by ext c) ø;rw[Ńx];exact Īz
  .have:n=1:=ø
   ext r;ext bJ;refine wpS_bind (wpS_mono (wpS_forRange (I:=λx z ay=>Ĕu/\z=%[none|%[x|0]]/\Dn r X lo Ċt)
    (Q:=λz ay=>Ĕu/\∃n,z=%[none|%[n|0]]/\2<=n/\n<=lG/\ĿT) ?_ ?_ ļ6) ?_)
   .intro x z ay x1 hx yV;ext b;let⟨e,rfl,u⟩:=yV;ext a;rw[e];ext d;ext cF;ext bl
    .rw[if_neg úX];have:=ýc;exact wpS_pure (rfl,rfl,u.more ø ø)
    .ext cF;ext d;have ne:=hd.ne (i:=lo+x) (j:=lo+x-1) ø ø ø;ext hN;rw[Ńx];exact ĬI
   .ext dK;ext b;let⟨e,rfl,u⟩:=Hm;ext a;rw[show max (1+1) lG=lG by ext c]at u⊢;exact(e,lG,rfl,ø,ł,u)
   .intro i j a b c;rw[show i=lo+1-1 by ext c,show j=lo+1 by ext c];ext c
   .ext gD;ext b;let⟨e,n,rfl,n1,n2,dn⟩:=K?;ext a;rw[e];ext d;let⟨σ,eY⟩:=NE ĵe
    have zY:ĐQ:=by rw[eY];exact mirror_size _ _ _ _
    have pY:øX:=by rw[eY];exact Ĭ0 (mirror_perm _ _ _ _)
    ext fd;have bY:ħ6:=λj hj=>by rw[eY,getElem?_mirror_all ø,Ŗ]
    have uY:ćr:=λi j a b c=>by rw[eY,Rq ø,Rq ø,øj,øj];exact dn _ _ ø ø ø
    refine wpS_bind (ŀI);show wpS _ _ _ _ _ _ (þ8 κ ĵe pend mg none);rw[<-eY];refine wpS_bind (wpS_mono (wpS_forRange (I:=λx z ay=>ąq/\ņP/\Up r σ lo Ċt)
     (Q:=λz ay=>ąq/\∃n,ņO/\1<=n/\n<=lG/\ćr) ?_ ?_ (rfl,rfl,uY)) ?_)
    .intro x z ay x1 hx Pe;ext b;let⟨e,rfl,u⟩:=Pe;ext a;rw[e];ext jM;refine cZ (λq=>ĬI) λq=>wpS_pure (rfl,rfl,u.more ø ?_);have:=of_decide_eq_false (ĆS:decide (K r σ Ċt<K r σ (lo+x-1))=false);ext c
    .ext ce;ext b;let⟨e,rfl,u⟩:=Pf;ext a;rw[show max n lG=lG by ext c]at u⊢;exact(e,lG,rfl,h1,ł,u)
    .ext gE;ext b;let⟨e,n,rfl,n1,n2,u⟩:=UR;ext a;rw[e];exact wpS_pure (h n σ n1 n2 pY bY u)
def aer[55]{lo n ok:Nat}[356](h1:1<=ok)(hz:lo+n<=ĵ)[160](u:Up r X lo (lo+ok))(h:∀σ,øX->Ĕ2->ćr->Q true (ĕr)):
  wpS û A E s (binarySort' lo n ok) Q Ċ8:=by
 refine wpS_bind (wpS_mono (wpS_forRange (I:=λk z ay=>ćU/\∃σ,ąq/\øX/\Ĕ2/\Up r σ lo ģd)
  (Q:=λz ay=>ćU/\∃σ,ąq/\øX/\Ĕ2/\ćr) ?_ ?_ (rfl,X,rfl,ĂN,ú5,by rw[show max ok 1=ok by ext c];exact u)) ?_)
 .intro k z ay k1 hk aP;ext b;let⟨rfl,σ,e,pY,bY,uY⟩:=aP;ext a;ext cv
  ext fd;refine wpS_bind (wpS_mono (wpS_forRange (I:=λx z ay=>ąq/\∃l m,z=%[none|%[l|m]]/\l<=m/\m<=k/\m-l+x<=k/\ĵK/\∀i,m<=i->ŀj)
   (Q:=λz ay=>ąq/\∃l,z=%[none|%[l|l]]/\l<=k/\ĵK/\∀i,l<=i->ŀj) ?_ ?_ (rfl,0,k,rfl,ùM,ł,ø,λi q=>absurd q Ė2,λi q1 q2=>absurd q1 ø)) ?_)
  .intro x z ay _ hx oH;ext b;let⟨e,l,m,rfl,g1,g2,g3,g4,g5⟩:=oH;ext a;rw[e];ext d;ext bl
   .have:l=m:=ø
    ext r;exact wpS_pure (rfl,l,rfl,g2,g4,g5)
   .ext jM;ext bl
    .have:=ýc;exact wpS_pure (rfl,l,đv,rfl,ø,ø,ø,g4,λi i1 i2=>ģ (ăv this) (ĸQ))
    .have:=of_decide_eq_false (ĆS:decide (ėP<K r σ (lo+đv))=false);exact wpS_pure (rfl,đv+1,m,rfl,ø,ÿs,ø,λi i1=>ģ (uY.le ø (show lo+i<=lo+đv by ext c) ø) ø,g5)
  .ext dL;ext b;let⟨e,l,m,rfl,g1,g2,g3,g4,g5⟩:=yU;have:l=m:=ø
   ext r;ext a;exact(e,l,rfl,g2,g4,g5)
  .intro z ay yV;ext b;let⟨e,l,rfl,g2,g4,g5⟩:=yV;ext a;rw[e];refine wpS_bind (wpS_modify (wpS_pure (rfl,bubble σ ģd Ļo,rfl,?_,λj hj=>?_,?_)))
   .exact(Ĭ0 (bubble_perm _ _ _)).trans pY
   .rw[getElem?_bubble ø _ ø,Ŗ,Ŗ];exact bY j hj
   .intro i j a b c;rw[Rr ø ø,Rr ø ø,show lo+k-Ļo=lo+l by ext c];by_cases c1:i=lo+l
    .rw[if_pos c1,Ŗ,øj];have:=g5 (j-1-lo) ø ø;rwa [show lo+(j-1-lo)=j-1 by ext c]at this
    .rw[if_neg c1];by_cases c2:j=lo+l
     .rw[if_pos c2,Ŗ];have:=g4 ģc ø;rwa [Į4]at this
     .rw[if_neg c2];by_cases c3:lo+l<i
      .rw[øj,øj];exact ĸQ
      .rw[Ŗ];by_cases c4:lo+l<j
       .rw[øj];ext mY
       .rw[Ŗ];ext mY
 .ext dK;ext b;let⟨rfl,σ,e,pY,bY,uY⟩:=Hm;ext a;exact(rfl,σ,e,pY,bY,uY.sub ě ø)
 .ext gD;ext b;let⟨rfl,σ,e,pY,bY,uY⟩:=K?;ext a;rw[e];exact wpS_pure (h σ pY bY uY)
open e
section
variable{r:čy}{X σ:Ļ}
def Runs[196](X:Ļ):ĄF->Nat->Ġv
 |[],lo,hi=>lo=hi
 |q::t,lo,hi=>q.1=lo/\0<ā7/\Up r X lo (lo+ā7)/\Runs r X t (lo+ā7) hi
theorem jH:∀{L1 L2:ĄF}[90],Runs r X (L1++L2) lo hi↔∃m,Runs r X L1 lo m/\Runs r X L2 m hi
 |[],L2,lo,hi=>(λh=>(lo,rfl,h),λ⟨m,e,h⟩=>by ext g;ext j)
 |q::L1,L2,lo,hi=>by
  ext D
  .intro aP;ext b;let⟨a,b,c,d⟩:=aP;let⟨m,h1,h2⟩:=jH.mp d;ext a;exact(m,(a,b,c,h1),h2)
  .intro oH;ext b;let⟨m,ď0,h2⟩:=oH;ext a;exact(a,b,c,Ĕz (m,d,h2))
theorem Runs.len:∀{L:ĄF}[90],Ěe->lo+ĉB<=hi
 |[],lo,hi,h=>by ext e;ext K
 |q::L,lo,hi,ď0=>by have:=d.len;rw[ă];ext c
theorem Runs.to:∀{L:ĄF}[90],Ěe->(∀j,lo<=j->j<hi->ĂX)->Runs r σ L lo hi
 |[],lo,hi,h,_=>h
 |q::L,lo,hi,ď0,e=>by have l:=d.len;refine(a,b,λi j h1 h2 h3=>?_,d.to λj h1 h2=>e j ø h2);ext aZ;rw[e i h1 ø,e j ø ø];exact c i j h1 h2 h3
def Up.to[90](h:Up r X lo hi)(e:∀j,lo<=j->ĂX):Up r σ lo hi:=λi j a b c=>by ext aZ;rw[e i a,e j ø];exact h i j a b c
theorem Runs.pw:∀{L L':ĄF}[90],Ěe->L'.map čX=L.map čX->Runs r X L' lo hi
 |[],[],lo,hi,h,_=>h
 |[],_::_,_,_,_,e=>üh
 |_::_,[],_,_,_,e=>üh
 |q::L,q'::L',lo,hi,ď0,e=>by injection e with e1 e2;injection e1 with e3 e4;exact(e3.trans a,by rw[e4];exact b,by rw[e4];exact c,by rw[e4];exact d.pw e2)
def Dv{L:Array ĕ2}:(L.modify i λq=>%[q.1|%[ā7|v]]).toList.map čX=L.toList.map čX:=by
 apply Ďt;intro j;rw[ĭ,ĭ,Āi,Āi,Array.getElem?_modify];split
 .rw[Option.map_map];rfl
 .rfl
def UY{l:ř}(h:i+1<Ÿ):∃L1 a b L2,l=L1++a::b::L2/\i=ĒC:=by refine(l.take i,l[i],l[i+1],ĊS (i+2),?_,ĸr);have e1:ĊS i=l[i]::ĊS Ē:=ü4 (ÿs);have e2:ĊS Ē=l[i+1]::ĊS (i+2):=ü4 h;rw[<-e2,<-e1,ĲD]
open e
section
variable[154]{mg:Nat}{X:Ļ}
def E_[55]{hi:Nat}[356][160](R:Runs r X ņu 0 hi)(hz:hi<=ĵ)(Cv:i+1<pend.size)(h:∀σ pd g,øX->(∀j,hi<=j->ĂX)->Ą1+1=pend.size->Runs r σ þM 0 hi->łZ):
  īb:=by
 ext b;let⟨L1,⟨sa,na,p⟩,⟨sb,nb,q⟩,L2,e,ei⟩:=UY (by rw[Ĩ];exact Cv);rw[e]at R;let⟨m,R1,a1,a2,a3,b1,b2,b3,R2⟩:=jH.mp R;dsimp only at a1 a2 a3 b1 b2 b3 R2;subst a1;subst b1;have l2:=R2.len;ext a;refine Lb C hS e ei a2 b2 ø a3 b3 λσ pd g y1 y2 y3 y4=>h σ pd g y1 (λj hj=>y2 j (.inr ø)) ?_ ?_
 .rw[<-Ĩ,<-Ĩ,e,y4];simp only[Ď,ă];ext c
 .rw[y4];exact Ĕz (sa,R1.to λj h1 h2=>y2 j (.inl h2),rfl,by show 0<ċM;ext c,by show Up r σ sa (sa+(ċM));rw[<-ďR];exact y3,by
   rw[<-ďR];exact R2.to λj h1 h2=>y2 j (.inr h1))
def acq[55]{Q:Unit->ûS}[160](hd:Ĕp)(h2:2<=ĵ)(h:∀σ pd g,øX->Up r σ 0 ĵ->Q ý9 (ĕq)):
  wpS û A E s sortRuns' Q (þ8 κ X #[] mg none):=by
 ext aF;ext d;refine wpS_bind (wpS_mono (wpS_forRange (I:=λx z ay=>∃lo σ pd g,z=%[none|lo]/\ĊK/\øX/\Runs r σ þM 0 lo/\x<=lo/\lo<=ĵ)
  (Q:=λz ay=>∃σ pd g,z=%[none|ĵ]/\ĊK/\øX/\Ę4) ?_ ?_ (0,X,#[],mg,rfl,rfl,ĂN,rfl,ł,ùM)) ?_)
 .ext dm;ext b;let⟨lo,σ,pd,g,rfl,e,pY,R,l1,l2⟩:=aP;ext a;ext cv
  ext fd;ext bl
  .have:lo=ĵ:=ø
   ext r;exact wpS_pure (σ,pd,g,rfl,rfl,pY,R)
  refine wpS_bind (UX C ø ø sY (hd.to pY) λn Y1 n1 n2 p1 b1 u1=>?_);have sY1:∀x∈Y1,S x:=λx hx=>sY x (ĆO (p1.mem_iff.mp ī1));have zY1:Y1.size=ĵ:=by rw[<-Ĩ,p1.length_eq,Ĩ,zY]
  have R1:Runs r Y1 þM 0 lo:=R.to λj _ h=>b1 j h;replace p1:=p1.trans pY;refine cZ (λc=>wpS_bind (wpS_lift (wpAny_rule (rfl,wpS_bind (aer C n1 ø sY1 u1 λY2 p2 b2 u2=>?_))))) λc=>?_;replace p2:=p2.trans p1;have R2:Runs r Y2 þM 0 lo:=R1.to λj _ h=>b2 j h;have m0:0<īU/\lo+īU<=ĵ:=by replace c:n<ĸK:=c;ext c
  rotate_left
  ext b;let⟨Y2,e2⟩:=NE Y1
  ext a;rw[<-e2]at R1 u1 p1 sY1 zY1⊢;have R2:=R1;have u2:=u1;have p2:=p1;have m0:0<n/\lo+n<=ĵ:=ø
  all_goals
   ext aF;cases hb:pd.back? with
   |none=>
    refine wpS_bind (wpS_modify (wpS_pure (_,Y2,_,_,rfl,rfl,p2,?_,?_,m0.2)))
    .show Runs r Y2 Į_ 0 _;rw[ČU];exact Ĕz (lo,R2,rfl,m0.1,u2,rfl)
    ext hV
   |some q=>
    ext b;let⟨s1,n1,v⟩:=q;ext a;refine wpS_bind (wpS_mono (wpS_forRange (I:=λ_ z ay=>ĥq)
     (Q:=λz ay=>ĥq) ?_ ?_ (rfl,Y2,pd,g,rfl,p2,ú5,R2)) ?_)
    .intro x z ay _ _ oH;ext b;let⟨rfl,σ,pd,g,e,pY,bY,R⟩:=oH;ext a;ext cv
     ext aF;ext d;by_cases c2:Ą1>1
     .rw[if_pos c2];ext b;obtain⟨q,eq⟩:∃q,pd[Ą1-2]?=some q:=(_,getElem?_pos pd _ ø)
      ext a;rw[eq];ext b;let⟨a1,a2,a3⟩:=q;ext a;refine cZ (λ_=>īc) ď_;refine wpS_bind (E_ C (ĕl) R ø ø Įo);exact wpS_pure (rfl,Y3,pd3,g3,rfl,ņI,λj hj=>(y2 j hj).trans (bY j hj),y4)
     .rw[if_neg c2];exact īc
    .exact đk
    .ext dL;ext b;let⟨rfl,σ,pd,g,e,pY,bY,R⟩:=yU;ext a;rw[e];refine wpS_bind (wpS_modify (wpS_bind (wpS_modify (wpS_pure (_,σ,_,_,rfl,rfl,pY,?_,?_,m0.2)))))
     .show Runs r σ Į_ 0 _;rw[ČU];exact Ĕz (lo,R.pw Dv,rfl,m0.1,u2.to bY,rfl)
     ext hV
 .intro z ay yV;ext b;let⟨lo,σ,pd,g,rfl,e,pY,R,l1,l2⟩:=yV;have:lo=ĵ:=ø
  ext r;ext a;exact(σ,pd,g,rfl,e,pY,R)
 .ext dK;ext b;let⟨σ,pd,g,rfl,e,pY,R⟩:=Hm;ext a;rw[e];refine wpS_bind (wpS_mono (wpS_forRange (I:=λx z ay=>ćU/\∃σ pd g,ĊK/\øX/\Ę4/\(Ą1<=1\/Ą1+x<=ĵ))
   (Q:=λz ay=>ćU/\∃σ pd g,ĊK/\øX/\Ę4/\Ą1<=1) ?_ ?_ (rfl,σ,pd,g,rfl,pY,R,.inr (by have:=R.len;rw[Ĩ]at this;ext c))) ?_)
  .intro x z ay _ hx K?;ext b;let⟨rfl,σ,pd,g,e,pY,R,l⟩:=K?;ext a;ext cv
   ext aF;ext d;refine cZ (λc=>wpS_pure (rfl,σ,pd,g,rfl,pY,R,c)) λc=>?_;refine wpS_bind (E_ C (ĕl) R ø ?_ Įo)
   .have lem:∀[342]{a b n:Nat},a+1<n->b+1<n->(if c then a else b)+1<n:=by intro c _ a b n h1 h2;split<;>assumption
    exact lem ø ø
   .exact wpS_pure (rfl,Y3,pd3,g3,rfl,ņI,y4,ø)
  .intro z ay Pe;ext b;let⟨rfl,σ,pd,g,e,pY,R,l⟩:=Pe;ext a;exact(rfl,σ,pd,g,e,pY,R,ø)
  .ext ce;ext b;let⟨rfl,σ,pd,g,e,pY,R,l⟩:=Pf;ext a;rw[e];refine wpS_pure (h σ pd g pY ?_);ext b;obtain⟨q,eq⟩:∃q,þM=[q]:=by
    match z:þM with
    |[]=>
     rw[z]at R;replace R:0=ĵ:=R;ext c
    |[q]=>exact(q,rfl)
    |_::_::_=>rw[<-Ĩ,z]at l;simp at l
   rw[eq]at R;let⟨_,_,u,e2⟩:=R;replace e2:0+ā7=ĵ:=e2;rw[e2]at u;ext a;exact u
open e
open e _G
namespace _F
open PySem.W PyProof.Rows
def dH(xs:øs):Prop:=(xs.Pairwise λa b=>lexLt b a=true)
section
variable{xs:øs}
theorem E!{α β:Type}:∀{vs:ř}{xs:ģD},Ş=į->vs.reverse.zip xs.reverse=(vs.zip xs).reverse
 |[],[],_=>rfl
 |ċS,úY,h=>by have h':Ş=į:=Ău h;rw[ú9,ú9,List.zip_cons_cons,ú9,List.zip_append (by rw[øY,øY,h']),E! h'];rfl
def nOf:Vg->Int
 |.int n _=>n
 |_=>0
def jG[15]:Vg->Vb
 |Ņ=>match úW with
  |Ă=>match úK with
   |.seq aE _=>aE.toList.map nOf
   |_=>[]
  |none=>[]
 |_=>[]
def Dw[23](h:ýo):ēY nOf=ns:=by
 induction h with
 |nil=>rfl
 |cons n t _ ih=>rw[Ą,ih];rfl
def Lc{v:Vg}{k:Vb}(t:fQ h v k):jG h v=k:=by ext b;let⟨_,a,o,aE,n,rfl,ho,_,hd,hi⟩:=t;ext a;unfold jG;ext d;rw[ho];ext d;rw[hd];exact Dw hi
def rk(xs:øs)(k:Vb):Nat:=(xs.countP λz=>lexLt z k)
theorem xO{α:Type}{p q:α->Bool}:∀{l:ř}{x:α},x∈l->(∀z,p z=true->q z=true)->q x=true->p x=false->Ē6 p<Ē6 q
 |y::l,x,m,h,hq,hp=>by
  have le:Ē6 p<=Ē6 q:=List.countP_mono_left λz _=>h z;rcases ŏ m with e|m
  .ext l;rw[ėQ (by rw[hp];ext aV),Č8 hq];ext c
  .have ih:=xO m h hq hp;by_cases c:p y=true
   .rw[Č8 c,Č8 (h y c)];ext c
   .rw[ėQ c];by_cases d:q y=true
    .rw[Č8 d];ext c
    .rw[ėQ d];ext aM
def E?[476](h:đ1=true):ļk:=
 xO ha (λz hz=>lg hz h) h (d6 a)
def Rt[476](hb:b∈xs):decide (ļk)=đ1:=by
 cases z:đ1 with
 |true=>exact decide_eq_true (E? ha z)
 |false=>
  refine decide_eq_false ?_;ext dC
  .rw[e];exact Ćc
  .have:=E? hb (d7 e z);ext c
def Le{xs:øs}(nd:xs.Nodup):(ąb (rk xs)).Nodup:=by
 refine ĂP (Ād (λ{a b}ha hb ne=>?_) nd);intro e;cases z:đ1 with
 |true=>have:=E? ha z;ext c
 |false=>have:=E? hb (d7 ne z);ext c
open e
open e _F
namespace _A
open PySem.Spec PyProof.Rows
def Dx(X:Cx)(f:Vg)(ks:Vf)(r:Ģ8):Prop:=(
 ∀[16](xs zs:ķ)(us ws:Vc)(Q:VK),ĥ->ùD->ba zs ws->r xs zs H Q ->
  wpAny Ć X.A (call f us (ks.zip ws)) ø3 X.xe s)
def tCK(r:Ģ8)(t tk:TA):TE:=(λY H Q=>t Y H λvs H1=>tk Y H1 λzs H2=>r vs zs H2 Q)
section
variable[227]{ks:Vf}{r:Ģ8}[4][30]{Jj:ćA}{t tk:TA}
def xP(hc:Dx X þR ks r)[86][339][125](hkw:PK X Jj tk)(hks:autoParam ((Čm).filterMap ď=ks) Č)[65](jY:Ăo)(he:autoParam (ĖZ=Āh::ČP) Č)(g!:autoParam ((ĖZ).any ď=false) Č)(SQ:autoParam ((Čm).all (·.1.isSome)=true) Č)(hno:autoParam ((Čm).any (·.1.isNone)=false) Č):PE X (Ű đy ŵ Jj pos) (tCK r t tk):=by ext q;ext ep;refine callWith_kw (de Čv λus s1 q1=>?_) he g! SQ hno;ext b;let⟨vs,H1,I1,r1,q1⟩:=q1;ext a;refine de (hkw pos ak s1 Y H1 _ I1 q1) λws s2 q2=>?_;ext b;let⟨zs,H2,I2,r2,q2⟩:=q2;ext a;rw[hks];exact hc ak s2 Y H2 vs zs us ws Q I2 r1 r2 q2
open e
def iK(k:Vb):ŭ:=(þd ûv)
def Lf{a b:Vb}(h:iK a=iK b):a=b:=by
 induction a generalizing b with
 |nil=>cases b with
  |nil=>rfl
  |cons=>ext e
 |cons x a ih=>cases b with
  |nil=>ext e
  |cons y b=>
   injection h with h1 h2;injection h1 with h1;rw[h1,ih h2]
def ph[23](h:ba Ņd us):ĿY:=by
 induction xs generalizing us with
 |nil=>ext e;ext am
 |cons x xs ih=>
  cases h with
  |cons a b=>
   let⟨t,rfl⟩:=a;exact Ċ x t (ih b)
open e _A
namespace _F
open PySem.W PyProof.Rows
def Dy(M:Int):ģE
 |[]=>M
 |x::r=>Dy (if x>M then x else M) r
def wy(a v:Vg):argsOk "max" ([a],[%[ě9|v]]):=by unfold argsOk;ext dU
def Fb[23](h:ýo):∀[64]{v:Vg},ĔN=Ĥ->∃n t,ns[i]?=āf/\v=ĉx:=by
 induction h with
 |nil=>intro i v e;ext g
 |cons n t _ ih=>
  intro i v e;cases i with
  |zero=>ext g;exact(n,t,rfl,rfl)
  |succ i=>exact ih e
section
variable{E:U!}{I l S:Vi}[23]{d:Vg}{R:ĀO}
def UZ(hh:ėv)(hI:l≠I)(U0:S≠I)(hSl:S≠l)(ia:ýo):∀(k j:Nat)(s:Vh)(M:Int)[197](c:Nat),ų-j=k->j<=ų->(ĸM I l j/\ăB l þ_) ->
  Ũ S=some (seqObj "list" #[ĒM,ĒM] c) ->
  (∀t' h' tk,(∀b o,b≠S->b≠I->ēe)->R (.ok (.ret (.int (Dy M (ēT j)) t'))) ü1) ->
  codeAny û A (Ő "max.loop" ([.ref I,ė,.ref S],[%[ě9|d]])) R s:=by
 ext hg
 ext hO
 intro k
 induction k with
 |zero=>
  ext kA;have e:j=ďd:=ø
  ext gS;refine wpAny_bind (wpAny_tryCatch (W.done s _ _ (e▸st) ľu));ext eL;show wpAny _ úZ (updateSeq S (đj) >>= _) _ _ _;refine wpAny_bind (wpAny_updateSeq Ru rfl Ī1);have:=hR t ((h'.update S (þ2 đj))) tk λb o h1 h2 e=>ĮB (hm b o (by simp[h2]) e);rw[List.drop_eq_nil_of_le ø]at this;ext n
 |succ k ih=>
  ext kA;have oQ:j<ďd:=ø
  ext gS;refine wpAny_bind (wpAny_tryCatch (W.item j s _ _ oQ st ı3));ext eL;let⟨n,t2,en,rfl⟩:=Fb ia įb;have hj':j<ų:=ø
  have ed:ēT j=n::ēT Ķ:=by rw[ħ hj']at en;cases en;exact ü4 hj'
  show wpAny _ úZ (tryCatch (holding [đH,đH] (richCompare .Gt (đH) (ĒM) >>= _)) _ >>= _) _ _ _;refine wpAny_bind (wpAny_tryCatch (wpAny_holding (wpAny_bind (show wpAny _ _ (compareOp .Gt (đH) (ĒM)) _ _ _ from gt_int ?_))));refine wpAny_bind (wpAny_holding (wpAny_truthy_bool Ī1));by_cases c1:n>M
  .rw[decide_eq_true c1];ext ok;refine wpAny_bind (wpAny_updateSeq Ru rfl (ėi));rw[Lg];refine wpAny_pure (Čs,ih Ķ _ n t2 _ ø ø ĪF ĹM ĵa)
   .exact Ħd
   .have:=hR t' h2 tk2 λb o h1 h3 e=>hm2 b o h1 h3 (ĮB Įy);ext hq;rw[if_pos c1]at this;ext n
  .rw[decide_eq_false c1];simp only[ĂO,if_false];refine ėi;refine wpAny_pure (Čs,ih Ķ _ M t c ø ø ay Ru ĵa);have:=hR t' h2 tk2 λb o h1 h3 e=>hm2 b o h1 h3 Įy;ext hq;rw[if_neg c1]at this;ext n
def maxD(dv:Int):ģE
 |[]=>dv
 |n::r=>Dy n r
theorem zd{s:Vh}[227]{b:Builtin}(hk:builtinKind id=none)(hp:plainId id=true)(hb:entryFor table id=ġ)(ha:argsOk id ĞE)
  (hc:wpAny û úZ (b ĞE) (λfin s'=>match fin with
   |ûK f=>(match(Except.ok f:Result) with|.ok ğV=>Q v s'|.ok _=>False|ġM=>E e s')
   |.again c'=>c'.quiet=true/\codeAny û A c' (λr s'=>match r with|.ok ğV=>Q v s'|.ok _=>False|ġM=>E e s') s') E s):wpAny û A (call þR args kw) Q E s:=by
 refine wpAny_call (codeAny_call_builtin hp hb ?_);simp only[checkBuiltinCall,hk];cases aes:ĴI id with
 |none=>ext nL
 |some sig=>
  have ha':Bind.checkArgs id sig ĞE=pure ý9:=by simpa only [argsOk,aes]using ha
  simp only[ha'];ext nL
def Lh{s:Vh}{dv:Int}{dt:Tok}[70](hl:ăB l þ_)(ia:ýo)(h:∀h' tk t,Ĕ5->Q (.int (maxD dv ns) t) ü1):wpAny û A (call ýx [ûA] ĕQ) Q E s:=by
 ext hO
 refine zd PySem.F.kind_max PySem.F.plain_max PySem.F.entry_max (wy _ _) ?_;show wpAny _ úZ (Ħz >>= _) _ _ s;refine wpAny_bind (wpAny_of_eq (show Ħz=pure [none,some (.int dv dt)]from rfl) ?_);ext Q;refine wpAny_bind ĭW;refine wpAny_bind (wpAny_newObj_type ?_);rw[Lg];refine wpAny_pure (Čs,?_);ext b;let⟨I,eI⟩:=NE ü
 obtain⟨h1,e1⟩:∃h1,h1=Ĥc:=ę
 let⟨S,eS⟩:=NE û5
 let⟨h2,e2⟩:=NE (ēP ĆF)
 ext a;ext iR
 have sz1:S=I+1:=by rw[eS,e1,eI,ûb]
 have hI:l≠I:=by rw[eI];exact œ oQ
 have U0:S≠I:=by rw[sz1];exact Nat.succ_ne_self I
 have hSl:S≠l:=by rw[sz1,eI];exact ûd (ĆM oQ)
 have k2:∀b o,Ŵ->ēQ b=Ă:=λb o e=>by rw[e2,e1];exact Ł _ ąE
 have st:ŀi I l 0/\h2.IsList l þ_:=by
  ext D
  .refine(ĕx,?_,rfl,rfl);rw[e2,e1,eI];exact ęb
  .let⟨o,ho,r⟩:=hl;exact(o,k2 l o ho,r)
 have hS:ēQ S=some ĆF:=by rw[e2,eS];ext ck
 show codeAny û A (Ő "max.loop" ([ùr,ė,.ref (Ĥc).úz],ĕQ)) _ {s with heap:=(Ĥc).push ĆF};rw[<-e1,<-e2,<-eS,<-eI];ext hg
 have fresh:∀b o,Ŵ->b≠S/\b≠I:=λb o e=>by have q:=ŉ e;exact(by rw[sz1,eI];exact œ (ĆM q),by rw[eI];exact œ q)
 refine Ĩ8;rw[Ĩe];show wpAny _ úZ ĭu _ _ _;refine wpAny_bind (wpAny_seqItems (s:=ęV) hS rfl ?_);show wpAny _ úZ ĩM _ _ _;cases ia with
 |nil=>
  refine wpAny_bind (wpAny_tryCatch (W.done ęV _ _ st ľu));refine wpAny_bind (wpAny_rule üI);exact h h' tk dt λb o e=>hm b o (by simp[(ņb).2]) (ĢB)
 | @cons n t sG ns' r=>
  refine wpAny_bind (wpAny_tryCatch (W.item 0 ęV _ _ (by rw[hsz];ext fM) st ı3));ext eL;have hv:v=ĉx:=by rw[ČR]at hP;cases hP;rfl
  subst hv;show wpAny _ úZ (updateSeq S (λ_ => #[ĉx,ĉx]) >>= _) _ _ _;refine wpAny_bind (wpAny_updateSeq Ru rfl ?_);refine wpAny_pure (Čs,UZ hh hI U0 hSl (Ċ n t r) _ 1 _ n t _ rfl Ĉ ĪF ĹM λt' h3 tk3 hm3=>?_)
  .exact Ħd
  .refine h h3 tk3 t' ĝ8;have f:=ņb;exact hm3 b o f.1 f.2 ((üZ _ _ (øv f.1)).trans (hm b o (by simp[f.2]) (ĢB)))
open e
open e _F
namespace _D
open PySem.Spec _A
open PyProof.Rows hiding St kindOf
def acr:ŭ->ăS
 |[]=>ûC
 |üJ::r=>(acr r).map ďE
 |.inr _::_=>none
def Rv:List (ŭ)->łV
 |[]=>ûC
 |k::r=>match acr k,Rv r with
  |Ō,ġ=>ņD
  |_,_=>none
def Li(a b:Vb):Bool:=(!(Ĥk))
def rS[183]:øs:=(ks.mergeSort Li)
def eO[183]:(ąK).Perm ks:=ĴG ks Li
def qv(nd:ān):øB (ąK):=by
 have h1:(ąK).Pairwise λa b=>Li a b=true:=by
  refine İV Ĳw ĿH ks
  .ext jE;by_cases e1:a=b
   .rw[e1];ext ai
   .by_cases e2:b=c
    .rw[<-e2];ext an
    ext iE
  .unfold Li;cases z:Ĥk with
   |false=>rfl
   |true=>rw[ċF z];rfl
 have h2:(ąK).Nodup:=(eO ks).ďT nd;refine ćo (λ{a b}h=>?_) (h1.and h2);have z:Ĥk=false:=ħ4
 exact ċE h.2 z
def lI(h:øB ks):ān:=ćo (λ{a b}h e=>by rw[e,_F.d6]at h;ext e) h
def Bm{a b:øs}(p:a.Perm b)(fa:øB a)(fb:øB b):a=b:=
 į9 ħz fa fb p
def jv(k:Vb):au:=(.tup (þd .int))
def ae5(d:au)[2]:ú0:=(match d with
 |Ġ=>match Š with
  |þy=>match Rv Ĕ_ with
   |ÿA=>if đ0<=sizeLine/\ks.all (λk => !k.isEmpty)=true then .ok øq (st++[.lst (Ņf jv)])else .bad
   |none=>.bad
  |_=>.bad
 |_=>.bad)
def d?:ý->ăS
 |[]=>ûC
 |ĝ::r=>Ĺs
 |_::_=>none
def fC:∀[6]{a:Vb},ûL=Ō->us=ąX Ė:=by
 intro us
 induction us with
 |nil=>intro a h;ext e;rfl
 |cons u r ih=>
  intro a h;cases u with
  |int i=>
   replace h:Ĺs=Ō:=h;cases z:d? r with
   |none=>ext v
   |some b=>ext v;rw[ih z];rfl
  |_=>ext e
def fR(a:Vb):d? Đr=Ō:=by
 induction a with
 |nil=>rfl
 |cons x a ih=>show(d? Đr).map (x :: ·)=_;ext cj
def aZ.jf{K:Va}:∀{a:Vb}[17],aZ K O H Đr vs->vs=ąX āY:=by
 intro a
 induction a with
 |nil=>intro vs h;exact h.dN
 |cons x a ih=>
  intro vs h;let⟨v,r,rfl,q1,q2⟩:=aZ.bA h;rw[Rl.bK q1,ih q2];rfl
section
def DA[42]:Dx X ýx ["default"] (λxs zs H Q=>∃(a:Vi)(ns:Vb)(dv:Int),ÿO/\zs=[ģk]/\Ľ5/\Q ėK H):=by ext jD;ext b;let⟨a,ns,dv,rfl,rfl,ha,q⟩:=h;ext hW;ext oc;let⟨aE,r,p,_⟩:=ù8 ha;ext a;exact _F.Lh úE āo (ph r) λh' tk t' k=>(üE,H,ÿx k,(t',rfl),q)
def HM(v d:au)[2]:ú0:=(match v,d with
 |Ġ,ģk=>match ſ with
  |đ=>match ûL with
   |āu=>.ok ėK st
   |none=>.bad
  |none=>.bad
 |_,_=>.bad)
def Fd(m md:ME):ME:=(λZ st=>ø4 λv aK=>(md Z aK).bind λd bP=>HM v d bP)
def Pj[3][8]{dv:Int}(h:ſ=ĀM):HM Ħ (ģk) st=.ok ėK st:=by unfold HM;ext d;rw[h];ext d;rw[fR]
variable[4][30]{ed:Expr}{m md:ME}
def Pl[42][86](hv:þh=some ýx)(ha:čz)(hd:PE X ed Ĝm)[65](jY:Ăo)[405]:PE X (Ű đy [e] [(some "default",ed,kp)] pos) (tE X E (Fd m md)):=by
 refine İ (xP (DA hc) hg hm hv Ļj (Et hd Jk) ù4 hn jY ĎW ĎW ù4 ù4) ?_;ext p;ext b;ext k;ext a;refine go Z O st rs sr h λu aK bv H1 v e1 bG r1 h1=>?_;refine go Z bv aK ÿT bG h1 λd bP dl H2 z e2 m9 r2 h2=>?_;have r1':=ĆB;cases u with
 |loc n=>
  cases d with
  |int dv=>
   unfold HM at h2;ext dx;cases hn:ģJ with
   |none=>ext dP;ext Y
   |some us=>
    ext dP;ext dx;cases hk:ûL with
    |none=>rw[hk]at h2;ext Y
    |some ns=>
     ext b;rw[hk]at h2;let⟨a,rfl,ha⟩:=r1'.cY;let⟨vs,h3,rv⟩:=a_ m9 hn ha;rw[fC hk]at rv;rw[ąY rv]at h3;ext a;exact(a,ns,dv,rfl,by rw[ùL],h3,bQ m9 h2)
  |_=>ext Y
 |_=>ext Y
open e
open e _D
namespace _H
section
variable[18]
def Pm:typeLookup ąC "keys" = pure none:=by
 ext dU
def HN[100]{xs:Ů}[169](hx:ġf)(hc:ē7)(wz:úK=.seq xs k)(hd:ĈI)(hA:Čd)(h:∀h' tk,(ğP)->Q none ü1):wpAny û A (getAttr? ś "keys") Q E s:=by
 ext b;let⟨c,dct,dat,sl⟩:=o;ext a;simp only at hc wz hd;ext b;subst hc wz hd;ext ft;have hT:∀tk',((hp,g,d,tk',os):Vh).TypeIs ś "list":=λ_=>(_,hx,rfl)
 have q1:=sub_AttributeError;have q3:=F.slot_list_getattribute.lookup;have q4:=F.slot_list_getattribute.bind ś;have q5:=am_list_getattr_none;ext a
 repeat (any_goals (first|assumption|exact hT _|((with_reducible show wpAny _ _ (call (ěY "list.__getattribute__") _ _) _ _ _);refine call_meets F.slot_list_getattribute (hT _) am_entry_list_getattribute (F.args_list_getattribute_2 _ _) (meets_getattribute_miss_list a xs k sl "keys" _ Pm ø Ĺr) (hx,hA,λh' tk' e hx'=>?_))|wp_step))
 ext b;let⟨t',u',he⟩:=hx'.there;ext a;show wpAny _ _ (getattributeRaised _ _ _ _ _ _ _) _ _ _
 repeat (any_goals (first|assumption|wp_step))
 exact h _ _ hx'.keeps
def Keeps(h h':Heap):Prop:=(Ĉ7)
variable[430]
def u5:entryFor table "dict.update.loop" = some Builtin.«dict.update.loop»:=entryFor_of_tree (by ext dU)
def km:plainId "dict.update.loop" = true:=Ĳ
open e
open e _H
namespace _A
open PySem.Spec PyProof.Rows
def HP[26]:aW X ĿC (λxs H Q=>∃i j,xs=[ĝ,ø7]/\Q (ėb) H):=by
 ext bg;ext b;let⟨i,j,rfl,q⟩:=aP;let⟨u,v,rfl,ru,rv⟩:=ba.two r;let⟨t,rfl⟩:=ru;let⟨t',rfl⟩:=rv;ext a;refine min_two_ints hh ľt;refine(ėb,H,ÿx hk,?_,q);by_cases c:j<i
 .rw[ām,ām];exact ę
 .rw[ĄI,ĄI];exact ę
open e _A
namespace _D
open PySem.Spec _A
open PyProof.Rows hiding St
def Lj:FN
 |[ĝ,ø7],st=>.ok (ėb) st
 |_,_=>.bad
def HQ[26]:aW X ĿC (cM ā E Lj):=by
 refine ùe (HP hh) ?_;ext S;ext b;ext P;unfold Lj at h;ext a;ext f
 .rename_i i j;ext b;let⟨v,w,rfl,r1,r2⟩:=r.un2;ext a;exact(i,j,by rw[ùK,ùL],ùc)
 ext h
open e _D
namespace _F
open PySem.W PyProof.Rows
section
variable[18]
def Pn{b:Vi}[369][308](hb:ą8=ÿB)[307](h:P (ûK (.ret ĿE)) s):
  ĦT:=by
 show Ĩc;ext cq;refine wpAny_forIn_list _ (λrest r s'=>ĢI/\s'=s/\∃x' y' sG oV,Ę'/\ěT/\ěS/\lexLt y' x'=úH/\Ėv) _ ?_ ?_ _ _
  ĕv
 .ext fJ;ext b;ext ej;ext a;cases hx with
  |nil=>ext au
  | @cons i t T! x1 Us=>
   cases hy with
   |nil=>ext au
   | @cons j t2 vs1 y1 hy1=>
    ext eg;replace hl:(if j=i then lexLt y1 x1 else ďa)=úH:=hl;ext dD
    .rw[if_pos e.symm]at hl;ext gU;ext c
    .rw[ĸJ]at hl;rw[ċ0];ext aO;ext kS;rw[show decide (i>j)=úH from hl];ext fN
 .ext gt;ext b;ext ei;ext a;ext eJ;have hb:ĺF=úH:=by
   rw[<-hl];cases hx with
   |nil=>
    cases hy with
    |nil=>rw[Ķc];rfl
    |cons _ _ _=>ext fg
   |cons _ _ _=>
    cases hy with
    |nil=>ext fo
    |cons _ _ _=>ext au
  show P (ûK (.ret (øk (ĺF)))) s';rw[hb];ext j
def Po[311](h:Q ĿE s):
  Ĩh:=by
 ext b;ext dZ;ext a;refine wpAny_richCompare_same_room ül ĐT čE ?_ hu;refine wpAny_call_entry čE ül ıI (Pn ho hc hd oG tD hd2 hi Cv ?_) ī2;ext cQ
open e
section
variable[18]{t:Vi}[23]
theorem xQ[53]:∀k,ŃI=(ns.take k).sum
 |0=>by rw[ĽG];rfl
 |k+1=>by
  show ŃI+ns.getD k 0=_;rw[xQ ns k,ěk,List.sum_append_int,ûQ];cases ns[k]? with
  |none=>simp
  |some x=>simp
def Pp[70](ht:Ć9 t þ_)(ia:ýo)(h:∀h' tk t',Ĕ5->Q (.int ĊV t') ü1):
  wpAny û A (call ăM [.ref t]) Q E s:=by
 have oQ:t<ü:=by let⟨_,e,_⟩:=id ht;ext J
 refine call_sum_walkG (wpAny_pyIter_tuple ht ?_);refine(_,_,_,_,_,_,λi=>ĈH,rfl,ŅY (A:=A.in1) hh _ t ĉu þ_,(Ār,ht.push _),üd,λi v hP=>?_,ĸ8)
 .show b<Ĝp;rw[ûb];ext lZ
  .ext cl
  .ext lZ
   ext gA
   .cases hb
 .ext b;let⟨n,t2,en,e⟩:=Fb ia įb;ext a;refine(t2,?_);show v=đM (ĈH) t2;rw[ûQ,en];exact e
 .have e:preSum Ăs ďd=ĊV:=by rw[xQ,Ľ,ia.length,Ĥl]
  rw[e];refine h h' tk t' λb o e=>hk b o ĝD ąE;ext fv
  .exact absurd ýH (by rw[e1];exact Ćc)
  .cases hm
open e
open e _F
namespace _A
open PySem.Spec PyProof.Rows
def HR[26]:aW X ăM (λxs H Q=>∃(a:Vi)(ns:Vb),ÿO/\Ľ6/\Q (čZ) H):=by ext bg;ext b;ext lx;ext eA;let⟨aE,r1,p1,_⟩:=ø' hs;ext a;exact _F.Pp hh ħn (ě4) λh' tk t' hk=>ĵH
open e _A
namespace _D
open PySem.Spec _A
open PyProof.Rows hiding St
def Lk:FN
 |ąP,st=>match ûL with
  |āu=>Ĝu
  |none=>.bad
 |_,_=>.bad
def U3[8]:Lk [.tup üW] st=Ĝu:=by show(match d? üW with|āu=>Ŝ (Ė ĊV) st|none=>.bad)=_;rw[fR]
def HS[26]:aW X ăM (cM ā E Lk):=by
 refine ùe (HR hh) ?_;ext S;ext b;ext P;unfold Lk at h;ext a;ext f
 .ext dO;ext f
  .rename_i ns hn;ext b;ext z;rw[fC hn]at r1;ext kG;rw[ąY rp]at hp;ext a;exact(p,ns,rfl,hp,ùc)
  ext h
 ext h
def Glob.strs{K:Va}[4][100]{aE:Ů}[3]{ns:Vf}[395](hv:ba (ýF V.str) ýE):Glob K mg x (.mt (ýF .str)):=
 (_,Ņ,h,rfl,λO H=>Rl.abS īY (by
  clear h l hc hd hz hv
  induction ns with
  |nil=>exact ùH
  |cons s ns ih=>exact Ź (Ąo s) ih))
open e _D
namespace _E
open PySem.Spec _A _D
open PyProof.Rows hiding St
def Ll:au:=(.mt ((Ŀ8:Vf).map au.str))
def gJ:FN:=(fL 1 1 (bb (wg (C? "str" aM) (ao ĝd aM (mC _E.Ll)))))
def fD:FN:=(fL 1 1 (dP (ck ğ0) Ħ9 aT))
open e _E
namespace _F
open PySem.W PyProof.Rows
section
variable[18]{d:Vi}[187]
def Pq(hd:Ć0):MeetsIn prog w (Builtin.«dict.__len__» (ċw,[])) (λ_ R s=>∃es ep,ăt/\R (.ok (.ret (.int øl üu))) þj):=
 .of_wp λA R s⟨es,ep,⟨o,ho,hc,wz⟩,h⟩=>by show wpAny _ _ (dictSize d >>= _) _ _ s;refine wpAny_bind (wpAny_bind (wpAny_dictEntries ho wz üI));refine wpAny_bind (wpAny_pendingCount_other hd ?_);refine wpAny_ret_mkInt ?_;rw[ûg];ext j
def Pr(hd:Ć0)(x:ăt)(abC:(øl:Int)<ýT)(h:Q (.int øl (Ăb)) {s with toks:=Ăb+1}):wpAny û A (call ăL ċw) Q E s:=by
 refine Calls.call_function_entry kind_len plain_len entry_len (args_len1 _) ?_;ext Q;refine wpAny_bind (wpAny_callSpecial?_slot x.ty ĲG
  (call_meetsIn ĲG x.ty PySem.F.entry_dict_len (PySem.F.args_dict_len_1 _) (Pq hd) (es,ep,x,?_)))
 refine wpAny_bind (wpAny_holding üI);refine ėi;rw[Ŗ];rw[Ŗ];exact wpAny_bind (wpAny_mkInt (wpAny_pure ĞC))
open e
section
variable[18]{l:Vi}[23]
def DB(h:ýo):∃xs:Array Łv,þ_=ďK/\úe=ų/\∀i,numAt xs i=ĈH:=by
 have:∃l:List Łv,us=øU (λp=>đM p.1 p.2)/\Ĥg=ns:=by
  induction h with
  |nil=>exact([],rfl,rfl)
  |cons n t _ ih=>
   let⟨l,e1,e2⟩:=ih;exact(%[n|t]::l,by rw[e1];rfl,by rw[<-e2];rfl)
 let⟨l,rfl,rfl⟩:=this;refine(l.toArray,by simp[intItems],Ń,Ĥx);unfold numAt;rw[ČR,ûQ,ĭ]
open e
open e _F
namespace _D
open PySem.Spec _A
open PyProof.Rows hiding St kindOf
section
variable[ďs]
def rT(aA:úr)(k:κ):úr:=(īt)
theorem eJ.drop{K:Va}(k:κ):∀[88],þO->eJ K O H (rT aA k) (rD l k)
 |[],l,p=>İg
 |ĝs,l,p=>by
  ext b;ext eT;have ih:=eJ.drop k p';ext a;unfold rT rD at ih⊢;ext go
  .rw[Āe Ĕ3,Āe Ĕ3];ext aM
  .rw[Āf Ĕ3,Āf Ĕ3];exact ĄZ r ih
open e
open e _D
namespace _A
open PySem.Spec PyProof.Rows PySem.W
def wA:aW X Ă5 (λxs H Q=>∃(ea:Vi)(oe:Obj)(C D:Vi)(b:Bool),xs=[þ1,ąk]/\ĺ2/\ûG=ýY/\k! X.K C/\kitOne X.K Ĝ û9=ġ/\Q ùJ H):=by ext ap;ext b;let⟨ea,oe,C,D,b,rfl,hp,hc,hq,hk,q⟩:=h;ext jC;ext hu;ext a;exact kia_one (KD hc hq) I.nT he hk ü9 λtk=>(Ś,H,I.tok tk,rfl,q)
open e _A
namespace _D
open PySem.Spec _A
open PyProof.Rows hiding St
def rV[177](qs:Vf)[5][21]:ME:=(λZ st=>match ċt with
 |some (ČJ)=>if ŀt then(match āv with
  |ġ=>Ğ1
  |none=>.bad)else .bad
 |_=>.bad)
section
variable[30]{n x:Str}[302]{qs:Vf}
def Pt[5][335](hQ:wm X.K X.mg qs)[338][387][391][303]:PE X ĕH (tE X E (rV úN qs i x)):=by
 ext b;let⟨D,hD,_,_⟩:=h;ext a;refine İ (oM wA hg hm Ė6 (g_ ęw (g_ (yB (v:=ąk) hgx hD rfl hdx) p! cO) hs) ø ø hs g!) ?_;ext p;ext b;ext k;unfold rV at h;ext a;ext f
 .ext gI;ext f
  .rename_i hqs;ext f
   .rename_i b eb;ext b;ext iK;let⟨C',hC',hq⟩:=hQ.at_ hqs;have hC:X.mg c=ûZ:=hC;rw[hC]at hC';cases hC';ext a;refine(_,e',a,oe,C,D,b,rfl,hp,ho,hq,?_,ù3);have k:=hS.ab6 c x b C D eb hC hD;unfold ù_;split
    .ext ci;ext nN;rw[hq.kc]at k;exact k
    .exact k
   ext h
  ext h
 ext h
open e
open PyProof.Rows hiding St kindOf
def jI[113](v:au):ĂJ->ĂJ
 |[]=>Ģd
 |(g,x)::r=>if g=f then%[g|v]::r else%[g|x]::jI f v r
def NoF(K:Va)[225]:Prop:=(∀c∈cs,∀C,ú3->ĊC/\ĄJ)
def Pu[225](d:au)[2]:ú0:=(match d with
 |Ġ=>match Š with
  |ćM=>if Ĕv then match ą_ with
   |Ĥ=>ù9
   |none=>.bad else .bad
  |_=>.bad
 |_=>.bad)
def dZ[225](m:ME):ME:=(λZ st=>ø4 (Pu cs f))
def Pw[225](v d:au)[2]:Option ai:=(match d with
 |Ġ=>match Š with
  |ćM=>if Ĕv/\ĉO then some (üF n ıo)else none
  |_=>none
 |_=>none)
def nK[225](mo mv:ME):MB:=(λZ st=>(mv Z st).sb Z λv aK=>(mo Z aK).sb Z λd bP=>match Pw cs f v d bP with
 |some kG=>.nx Z kG
 |none=>.bad)
def Px[82](F:FN)[37][2]:ú0:=((F (ġU::us) Ĵu).bind λv aK=>match v with
 |.cq=>.ok øq aK
 |_=>.bad)
def Bn[82](F:FN)(a:MA):ME:=(λZ st=>ùu (Px c F))
def Bo(c m:Str)[2](d:au):Bool:=(match d with
 |Ġ=>match Š with
  |some (.ins c' fs)=>decide (c'=c)&&(Ān m).isNone
  |_=>false
 |_=>false)
def gX(c m:Str)(F:FN)(o:ME)(a:MA):ME:=(λZ st=>Ļr λd aK=>if Bo c m aK d=true then ĺ6 λus bP=>F (d::us) bP else .bad)
section
variable{K:Va}
theorem u6[149]:∀[255]{gs:úA},ďw->(∀v,Ēc->∃x,ņd=ī/\ł2)/\(ą_=none->ņd=none)
 |[],gs,h=>by ext kI;exact((λv e=>ād),ù')
 |(k,v)::fs,gs,h=>by
  cases gs with
  |nil=>exact ĽT
  |cons g gs=>
   ext b;ext mx;let⟨x,r,q1,q2,q3⟩:=aZ.bA h.2;ext mN;ext a;have i:=u6 (f:=f) (e2,ęp);ext b;ext kc;ext a;rw[ĎO,ĎO];cases z:f==k with
   |true=>exact(λw e=>(gx,rfl,by ext g;exact q2),λe=>üh)
   |false=>exact i
theorem Fe[149]{v:au}{x:V}(hv:ł2):∀[255]{gs:úA},ďw->eJ K O H Ŀd (jW f x gs)
 |[],gs,h=>by ext kI;exact(rfl,āE hv)
 |(k,w)::fs,gs,h=>by
  cases gs with
  |nil=>exact ĽT
  |cons g gs=>
   ext b;ext mx;let⟨y,r,q1,q2,q3⟩:=aZ.bA h.2;ext mN;ext kc;ext a;have i:=Fe (f:=f) hv (e2,ęp);unfold jI jW;by_cases z:k=f
   .rw[øO,øO];exact(h.1,Ź hv (ęp))
   .rw[ů,ů];exact(congrArg (k :: ·) i.1,Ź q2 i.2)
def Lm{fs:úr}{gs:ùl}[47](h:ďw):eJ K bi H' fs gs:=(h.1,øw e _ _ h.2)
open e
section
variable{f x:Str}[30]{m mv:ME}{cs:Vf}[115]{F:FN}
def Ln[481][506](hb:autoParam (attributeBase o f Ā āW=ü_) Č):PE X (ús o f pos) (tE X E (dZ cs f m)):=by
 refine İ (Su ho hb) ?_;ext p;ext b;ext k;ext a;ext bI;cases d with
 |loc n=>
  ext b;ext t;unfold Pu at h1;ext bq;ext a;cases hn:aK[n]? with
  |none=>rw[hn]at h1;ext s
  |some cl=>
   rw[hn]at h1;cases cl with
   |ins c fs=>
    ext b;let⟨C,dx,gs,hH,AL,pr⟩:=ēK n _ a hn ha;ext bq;ext a;by_cases hc:Ĕv
    .rw[if_pos hc]at h1;cases hl:ą_ with
     |none=>rw[hl]at h1;ext s
     |some v=>
      ext b;rw[hl]at h1;let⟨y,hy,ry⟩:=(u6 pr).1 v hl;let⟨k1,k2⟩:=hF c hc C AL;ext a;exact(a,C,dx,gs,y,rfl,hH,k1,k2,hy,h1 _ _ _ Ģ bG ry)
    .rw[if_neg hc]at h1;ext s
   |_=>ext s
 |_=>ext s
def Lo[481][123][445](hs:autoParam (ĦC) Č):PS X Īl (tS X E (nK cs f mo mv)):=by
 refine úR (Sv ho hv hs) ?_;ext al;ext b;ext k;ext a;refine JZ Z O st rs sr h λv aK bv H1 y e1 bG r1 h1=>?_;ext ia;cases d with
 |loc n=>
  ext b;ext mk;unfold Pw at h2;ext dx;ext a;cases hn:bP[n]? with
  |none=>ext dP;ext Y
  |some cl=>
   ext dP;cases cl with
   |ins c fs=>
    ext b;let⟨C,dx,gs,hH,AL,pr⟩:=m9.cell n _ a hn ha;ext dx;ext a;by_cases hc:Ĕv/\ĉO
    .ext b;rw[if_pos hc]at h2;let⟨k1,k2⟩:=hF c hc.1 C AL;have hl:gs.length<1000:=by have:=congrArg ýs pr.1;ext gc;ext c
     have ay:aD dl H2 dl (upd H2 a (.ins C dx (jW f y gs))):=ĊI hH ĻO ĹQ;ext a;refine(a,C,dx,gs,rfl,hH,k1,k2,hl,h2 dl _ Y ay (m9.set hn rfl rfl ha hH ĻO ĹQ (C,dx,_,bg,AL,Lm ay (Fe ĕf pr))) (łd ay))
    .rw[if_neg hc]at h2;ext Y
   |_=>ext Y
 |_=>ext Y
def SR.made{K:Va}[8]{y:Vi}[112](AL:ú3)(hx:H y=none)(hd:H dx=none)(ne:dx≠y):
  aD O H ğX ĕ_/\SR K ğX Ĵu ĕ_:=by
 have s1:nX H ĘF:=b7 hd;have h2:upd H dx ğU y=none:=by rw[aO Ēp];exact hx
 have s2:nX ĘF ĕ_:=b7 h2;exact(ĉf y λb o q=>s2 _ _ (s1 _ _ q),(ēX s1).alloc h2 (C,dx,[],bg,AL,rfl,ùH))
def Ff{y:Vi}[3](h:ĒT=n):ğX[n]?=ûE:=by rw[ē_,h,úu];rfl
def U4(M:Mk X.K C fa)[402][345][45][359](AL:ýZ X.K mainGlobals x=Ĉ3)[329][66][48]:
  Ĭ5:=by
 refine İ (NJ M G hr hg hm hb .nil hx ha jY he g!) ?_;ext p;ext b;ext k;ext a;ext aD;intro y dx n1 n2 ne;ext ad;let⟨q1,q2⟩:=SR.made bG AL n1 n2 ne;refine(ěf::us,bv++[y],ļa,Ź (ąO ľU) (øw q1 _ _ r1),q2,?_);have h1:=ē0 h1 q1;unfold Px at h1;cases z:F (ěf::us) (ļa) with
 |ok v bP=>
  ext aU;intro dl H2 w e2 m9 r2;cases v with
  |cq=>exact(ą4,h1 dl H2 _ e2 m9 (ąO (e2.at_ ľU)))
  |_=>ext s
 |err c bP=>
  ext aU;ext an
 |bad=>ext aU;ext an
def Py{mt:Str}[278](cl:ġ1)(hM:Ĺ_)[402][127](AL:ýZ X.K mainGlobals c=Ĉ3)[329][123][66](CD:Ći)[317](T:PE X ĖC (Jg C mt Łs [] E Ŀk Ďq)):
  ĪO:=by
 refine İ T ?_;ext p;ext b;ext k;ext a;ext bI;cases hd:Bo c mt aK d with
 |false=>rw[hd]at h1;ext s
 |true=>
  rw[hd,Ī]at h1;cases d with
  |loc n=>
   ext b;ext t;unfold Bo at hd;dsimp only at hd;ext a;cases hn:aK[n]? with
   |none=>rw[hn]at hd;cases hd
   |some cl'=>
    rw[hn]at hd;cases cl' with
    |ins c' fs=>
     ext b;let⟨C',dx,gs,hH,aet,pr⟩:=ēK n _ a hn ha;rw[úx]at hd;ext a;obtain rfl:c'=c:=of_decide_eq_true hd.1;obtain rfl:C'=C:=by have:=aet.symm.trans AL;ext fr;ext fr;injection this
     refine(a,dx,gs,rfl,hH,(u6 pr).2 (Option.isNone_iff_eq_none.mp hd.2),?_);ext hX;ext ad;exact(Ġ::us,dl,bP,Ź (üy e2 _ _ (ąO ha)) r2,m9,wR.pn h2)
    |_=>cases hd
  |_=>cases hd
open e
section
variable{K:Va}
def df(K:Va)[21][241]:Prop:=(∃(f:Vi)(fd:FuncData),ĺc/\Ĥq)
def df.mk[4][314](a:Ĥq)(l:ċZ=some (oc,od,ā1 Ħi,IJ))(c:ĒW K d5 x=true)(k:ćb):df K x st:=(f,_,CW l c k,a)
inductive DC(K:Va):ÿr
 |nil:DC K []
 |cons [4] {r:Vf} (a:Ćp=þY) (t:DC K r):DC K Ċu
@[reducible] def Pz(mg:U?):ÿr
 |[]=>True
 |x::r=>đ2/\Pz mg r
theorem DC.get[121]:∀{l:Vf},DC K l->Pz mg l
 |_,.nil=>trivial
 |_,Ċ a t=>(ł6 X G a,Ēa)
inductive DD(K:Va):ÿr
 |nil:DD K []
 |cons [4] {r:Vf} {C:Vi} (a:Ćp=Ĉ3) (e:ĨH) (s:Ęr) (t:DD K r):DD K Ċu
@[reducible] def PB[68]:ÿr
 |[]=>True
 |x::r=>Ku K mg x/\PB K mg r
theorem DD.get[121]:∀{l:Vf},DD K l->PB K mg l
 |_,.nil=>trivial
 |_,Ċ a e s t=>((_,ġd,e,s),Ēa)
inductive jg(K:Va):úo->Prop
 |nil:jg K []
 |cons {c x:Str} [1] {C D:Vi} {cd:ClassData} {r:úo} (h1:ú3) (h2:Ćp=some (some û9)) (h3:ņU) (h4:īN) (h5:Ċm K Ĝ û9=ġ) (t:jg K r):jg K Ķs
inductive u7(K:Va):ÿr
 |nil:u7 K []
 |cons [115] {C:Vi} {r:Vf} (h1:ú3) (h3:ù_ K Ĝ (Ěn)=Ğ) (t:u7 K r):u7 K (c::r)
def acs(l:Vf):úo:=(øU λc=>%[c|%["ValueError"|true]])
theorem u7.get[121](n:ĩC):∀{l:Vf},u7 K l->ee K mg (acs l)
 |_,.nil=>.nil
 |_,Ċ h1 h3 t=>.blt Ľf (ł6 X G n) nJ h3 (t.get X G n)
theorem jg.get[121]{l':úo}(S:ee K mg l'):∀{l:úo},jg K l->ee K mg (l++l')
 |_,.nil=>S
 |_,Ċ h1 h2 h3 h4 h5 t=>.own Ľf (ýN X G h2) (Ho h3 h4 h5) (t.get X G S)
inductive DE(K:Va):ÿr
 |nil:DE K []
 |cons [4] {r:Vf} {C:Vi} (a:Ćp=Ĉ3) (q:_A.yY K C=true) (t:DE K r):DE K Ċu
theorem DE.get[121]:∀{l:Vf},DE K l->wm K mg l
 |_,.nil=>.nil
 |_,Ċ a q t=>Ċ (ġd) q (Ēa)
def wm.known{l:Vf}(Q:wm K mg l):Known mg (knL l):=λc hc=>let⟨C,h,_⟩:=Q.at_ hc;(C,h)
open e
section
variable[234]{ma:ME}
def U5[31]:PE X (ąe a .Add b pos) (tE X E (ao cA ma mb)):=j8 Ox ha hb
def U6[31]:PE X (ąe a .Sub b pos) (tE X E (ao gb ma mb)):=j8 Oy ha hb
def U7[31]:PE X (ąe a .Mult b pos) (tE X E (ao du ma mb)):=j8 Oz ha hb
def U8[31]:PE X (ąe a .FloorDiv b pos) (tE X E (ao iL ma mb)):=j8 J3 ha hb
def U9[31]:PE X (ąe a .Mod b pos) (tE X E (ao cw ma mb)):=j8 OA ha hb
def acu[31]:PT X (ĈQ a [.Lt] [b] pos) (tT X E (bx (ao ltV ma mb))):=jq J4 ha hb
def acv[31]:PT X (ĈQ a [.Gt] [b] pos) (tT X E (bx (ao uI ma mb))):=jq J5 ha hb
def acw[39][31]:PT X ĵz (tT X E (bx Ļc)):=jq (J_ hu) ha hb
def acx[39][31]:PT X ĵi (tT X E (bx Ļb)):=jq (J! hu) ha hb
def acy[39][31]:PE X ĵz (tE X E Ļc):=jo (J_ hu) ha hb
def acz[39][31]:PE X ĵi (tE X E Ļb):=jo (J! hu) ha hb
open e
def MethAt[120](c m:Str)[22](F:FN):Prop:=(
 ∃C fa fd ps,_A.Es K C/\Meth K C m fa/\ħT/\ú3/\ćE)
def pj[120][82][22](F:FN):Prop:=(
 ∃C fa fd ps,Mk K C fa/\ħT/\ÿu/\ú3/\ćE)
section
variable[30]{F:FN}{x c mt:Str}
def PD(G:pj Đ X.w X.K X.mg ùb x k F)(hr:Ģn)(hk:k+1<=j)[45](hx:Č')[66][48]:Ĭ5:=by ext b;let⟨C,fa,fd,ps,M,G,hm,AL,b⟩:=G;ext a;exact U4 M G Ĉo hg hm AL b hx ha jY he g!
def Lp(G:MethAt Đ X.w X.K X.mg ùb c mt k F)(hr:Ģn)(hk:k<=j)(hx:Č')[123][66]
  (T:∀ {C fa:Vi} [44] [152] {sp:Sp} {ta:TE} {t:TA},Ġy->PA X ŵ t->_A.Es X.K C->Ĺ_->gN Đ X.w X.K X.mg ùb ď2 k fa fd ps sp->dI k X.A->ČO->Č' ->
   PE X ĖC (Jg C mt sp [] E ta t):=by exact λh1 h2 cl hM F r b x=>NI h1 cl hM F r b .nil x h2)
  (CD:Ći) [317]:ĪO:=by
 ext b;let⟨C,fa,fd,ps,cl,hM,G,AL,b⟩:=G;ext a;exact Py (pl:=pure true) cl hM G Ĉo AL b hx ho ha CD g! (T ho ha cl hM G Ĉo b hx)
open e
def Lr[68][82](fs:Vf):Prop:=(∀C,ú3->ÿu/\_A.Es K C/\Ďe/\Ğg/\∀f∈fs,ĄJ)
def Lr.nof{K:Va}{c f:Str}{fs:Vf}(h:Đj)(hf:f∈fs):NoF K [c] f:=by intro c' hc C hC;rw[Ķ1]at hc;subst hc;let⟨_,h2,_,_,h5⟩:=h C hC;exact(h2,h5 f hf)
@[reducible] def U_[68]:čN->Prop
 |[]=>True
 |(c,fs)::r=>Đj/\U_ K mg r
inductive DF[135]:ÿr
 |nil:DF K C []
 |cons [149] {r:Vf} (a:ĚM) (t:DF K C r):DF K C (f::r)
theorem DF.get{K:Va}:∀{l:Vf},DF K C l->∀f∈l,ĄJ
 |_,.nil=>λf h=>úa
 |_,Ċ a t=>λf h=>by
  rcases ŏ h with e|h
  .ext l;exact a
  .exact t.get f h
inductive DG(K:Va):čN->Prop
 |nil:DG K []
 |cons [115] {fs:Vf} {r:čN} {C:Vi} (a:ú3) (p:Ĭ6) (d:čP) (o:ĘM)
   (s:ĕA) (m:Ďe) (k:Ğg) (f:DF K C fs) (t:DG K r):DG K (%[c|fs]::r)
theorem DG.get{K:Va}[121]:∀{l:čN},DG K l->U_ K mg l
 |_,.nil=>trivial
 |_,Ċ a p d o s m k f t=>(λC hC=>by
   have e:=hC.symm.trans a;ext g;exact(ġd,(p,d,o,s),m,k,f.get),Ēa)
def Bp(K:Va)(c m q:Str)[241]:Prop:=(∃(C f:Vi)(fd:FuncData),ú3/\ĚN/\ćs/\Nc K m q st f fd)
def Bp.mk{K:Va}{c m q:Str}[314](n:ú3)(a:ĚN)(i:ćs)(l:ċZ=some (oc,od,ā1 Ħ0,IJ))(d:ĒW K d5 q=true)(k:ćb):ĿQ:=(C,f,_,n,a,i,CW l d k)
section
variable{K:Va}{c m q:Str}[93]{fs:Vf}
def MethAt.mk(M:ĿQ)(cl:Đj)(S:ăT)(hb:∀[267],āN->bindArgs Ħ0 ÿV=Ċh)
  (h:∀ (f:Vi) [189] (A:Vj) [226] (s:Vh) (H:Hp) (E:XK),Ī5 ->
   ĵk):MethAt P w K mg base c m øe čn:=by
 ext b;ext lw;ext a;exact(C,f,fd,ps,(cl C n).2.1,(a,i,F.kp),ŃO,n,Ğ5)
def pj.mk(M:Bp K c "__init__" q st)(cl:Đj)(S:ăT)(hb:∀[267],āN->bindArgs (ąo "__init__" q ēl ÿn û3 ė kV doc pm an d5 ct) ÿV=Ċh)
  (h:∀ (f:Vi) [189] (A:Vj) [226] (s:Vh) (H:Hp) (E:XK),Ī5 ->
   ĵk):pj P w K mg base c øe čn:=by
 ext b;ext lw;let⟨g1,_,g3,g4,_⟩:=cl C n;ext a;exact(C,f,fd,ps,(g3,a,i,g4),ŃO,g1,n,Ğ5)
open e
open e _D
namespace _F
open PySem.W PyProof.Rows
def iW(f:ĄG):ĄG
 |0=>f 0
 |j+1=>ĩY
theorem lJ(f:ĄG):∀j,f (Ėu)=ĊR
 |0=>rfl
 |j+1=>by
  have ih:=lJ f j;show f (if decide (ċI>f (Ėu))=true then j+1 else Ėu)=ĩY
  rw[ih];by_cases c:ċI>ĊR
  .rw[if_pos (decide_eq_true c),ām]
  .rw[if_neg (by rw[decide_eq_false c];ext aV),ĄI,ih]
theorem u9{f g:ĄG}:∀{j:Nat},(∀i,i<=j->f i=g i)->ĊR=iW g j
 |0,h=>h 0 ě
 |j+1,h=>by unfold iW;rw[u9 λi hi=>h i ø,h Ķ ě]
section
variable[18]{l:Vi}[23]
def HU[70](hl:Ć9 l þ_)(ia:ýo)[401]:
  wpAny û A (call ýx [ûA]) Q E s:=by
 let⟨xs,ex,sx,nx⟩:=DB ia;rw[ex]at hl;ext iR
 have aaa:0<úe:=by
  rw[sx];cases ns with
  |nil=>exact Ŀ_
  |cons=>ext fM
 refine call_max_walk (wpAny_pyIter_tuple hl ?_);refine(_,[_,l],[_],_,_,_,_,rfl,ŅY (A:=A.in1) hh _ l ĉu (ďK),
  ķ6,Ĉ6,by simpa[intItems]using aaa,ĿR ĝu (λ_ _=>intItems_at),λv h' tk hP hk=>?_)
 .show c<Ĝp;rw[ûb];ext de
  .ext cl
  .ext de
   ext gA
   .cases hc
 .have hold:ğQ:=λc o e=>by
   refine hk c o ĝD ąE;ext fv
   ext it
   .cases hm
  let⟨t,rfl⟩:=intItems_at hP;have ev:numAt xs (argBest (λi j=>decide (numAt xs i>numAt xs j)) (Ľj))=Ľ4:=by rw[lJ ĝu,show Ľj=ų-1 by rw[<-sx];simp[intItems]];exact u9 λi _=>nx i
  rw[ev];ext nv
def Ls{d:Vi}{aA:List (_A.bF×Vg)}[70](lo:Ć0)(Cw:s.heap.DictAt (ł_) d aA ep)(hk:ņS)[401]:
  wpAny û A (call ýx ċw) Q E s:=by
 have oQ:d<ü:=Cw.lt_size;have hlen:ø2=ų:=by have:=congrArg ýs hk;ext bY
 have aaa:0<ø2:=by
  rw[hlen];cases ns with
  |nil=>exact Ŀ_
  |cons=>ext fM
 have key:∀i v,(∃k x,Ďf/\(ł_).is k v=true)->∃t,v=.int (ĈH) t:=by
  rintro i v ⟨k,x,e,hv⟩;have e1:ĻE:=ĺB
  rw[hk,ĭ]at e1;cases z:ns[i]? with
  |none=>ext oJ
  |some n=>
   ext oJ;rw[ûQ,z];cases v with
   |int m t=>
    have:m=n:=by have hv':_A.uc (.inl n) (.int m t)=true:=hv;exact ùs hv'
    exact(t,ŀa)
   |_=>exact absurd hv ü9
 refine call_max_walk (wpAny_pyIter_dict lo Cw ?_);refine(_,[_,d],[_],_,_,_,_,rfl,Walks.dictKeys (A:=A.in1) hh _ d ĉu aA ep,
  (Ār,Cw.push _),Ĉ6,aaa,ĿR Ăs key,λv h' tk hP hk'=>?_)
 .show c<Ĝp;rw[ûb];ext de
  .ext cl
  .ext de
   ext gA
   .cases hc
 .have hold:ğQ:=λc o e=>by
   refine hk' c o ĝD ąE;ext fv
   ext it
   .cases hm
  let⟨t,rfl⟩:=key _ _ hP;have ev:=lJ Ăs (ø2-1);rw[ev,hlen];ext nv
open e
open e _F
namespace _A
open PySem.Spec PyProof.Rows
def Bq[26]:aW X ýx (λxs H Q=>∃a ns,ÿO/\Ľ6/\ĩG):=by ext bg;ext b;let⟨a,ns,rfl,ha,O?,q⟩:=aP;ext cG;ext lj;ext a;exact _F.HU hh ħn (ě4) O? ĩj
def zg[26]:aW X ýx (λxs H Q=>∃(d:Vi)(aA:ùU)(ns:Vb),xs=ċw/\Rd H d ü5/\ņS/\ĩG):=by
 ext bg;ext b;let⟨d,aA,ns,rfl,hd,hk,O?,q⟩:=aP;ext cG;let⟨z,lo,vs,rel,dd⟩:=oP I.bE hd;let⟨ep,Cw⟩:=dd.dictAt;have e:Ċ1 ď=ďL:=by
  have:∀{a:ùU}{b:Ĉd},KV a b->b.map ď=ąX ď:=by
   intro a b r
   induction r with
   |nil=>rfl
   |cons h _ ih=>rw[Ą,Ą,ih,h.1]
  exact this rel
 ext a;exact _F.Ls hh lo Cw (ģP hk) O? ĩj
def HV:aW X ăL (λxs H Q=>∃a aA,xs=[V.ref a]/\ă5/\Q (ġQ) H):=by
 ext ap;ext b;ext lN;ext cG;let⟨z,lo,vs,rel,o,es,ep,h1,h2,h3,h4⟩:=oP I.bE ha;have hp:=h4.2.1;have el:øl=ø2:=by have e1:=hp.length;rw[<-ğx]at e1;simpa using e1
 ext a;refine _F.Pr lo ĹE (by rw[sizeLine_eq]at z;ext c) (ġQ,H,ù2,(_,by rw[el]),q)
def PF:dE X ĳk (rI (λi j=>Ės) λi j=>ĹT):=opI λi j _ _ _ _ _ hc q=>lshift_int hc.1 (by
  have h1:=intBits_le_iff.mpr hc.2.2;ext c) q
open e _A
namespace _H
section
variable[18]
variable[430]
def jg(knd:Ĺ1)[15](u:Vg)(q:K×Vg):Prop:=(
 ∃a o aE n key,u=Ņ/\ýJ/\ýu /\ ĎN/\ýE=[key,q.2]/\knd.is q.1 key=true)
def jg.mono{u:Vg}{q:K×Vg}(x:jg knd h u q)(hk:Keeps h h'):jg knd h' u q:=by ext b;let⟨a,o,aE,n,key,e,h1,h2,h3,h4,h5⟩:=x;ext a;exact(a,o,aE,n,key,e,hk _ _ h1,h2,h3,h4,h5)
def zh(qs:ĀR):ĀR->ĀR:=(λxs=>qs.foldl (λxs q=>ęS) xs)
def Br(xs:ĀR)(q:K×Vg):(ęS).length<=į+1:=by
 unfold stored;split
 ext gr
 .ext ak;ext K
def acA{B:Heap}{l d:Vi}[133]{R:ĀO}(hh:ėv)(hl:B.IsList l items)(hd:āO d=none)(hi:āO it=none)(hdi:d≠it):∀(qs:ĀR)[194](xs:ĀR)(s:Vh),j+Ąu=ûP ->
  (∀[5]q,ě7->∃u,items[j+i]?=Ę/\jg knd B u q)->Keeps B ù->ĸM it l j->s.heap.DictOf knd d xs->į+Ąu<=sizeLine ->
  (∀h' tk,Keeps B h'->ĠU knd d (zh qs xs)->R (.ok Ĵi) ü1) ->
  codeAny û A (Ő "dict.update.loop" ([ĉe,ģl,rawInt ù0,ė],[])) R s:=by
 have keep:∀{h h':Heap}{x:Vi},Keeps B h->āO x=none->Āu x h h'->Keeps B h':=λhk hx hs b u e=>(hs.2 b (λz=>by rw[z,hx]at e;ext g)).trans ŁM;intro qs
 induction qs with
 |nil=>
  ext jP;ext hr;ext b;ext lR;ext a;refine wpAny_bind (wpAny_pyNext_list_end hh hit ĳr (ıC įX) ņ1);exact wpAny_bind (wpAny_pure (wpAny_pure (hR h' üu (λb u e=>hx b u (λz=>by rw[z,hi]at e;ext g) ŁM) (hdo.extBut hx hdi))))
 |cons q qs ih=>
  ext jP;ext b;let⟨u,hu0,hp⟩:=hq 0 q rfl;ext a;ext hr;ext b;ext lR;ext a;refine wpAny_bind (wpAny_pyNext_list_item hit ĳr hu0 λh1 aeu b_=>?_);ext b;have k1:Keeps B h1:=keep hk hi b_;let⟨a,o,aE,n,key,rfl,g1,g2,g3,g4,g5⟩:=hp.mono k1;have d1:h1.DictOf knd d xs:=hdo.extBut b_.extBut hdi;ext a;ext d;refine wpAny_bind (wpAny_holding (wpAny_bind (wpAny_tryCatch ?_)));unfold Builtin.Dict.pairItems;refine wpAny_bind (wpAny_typeOf (T:="tuple") (o,g1,g2) ?_);rw[øj];refine wpAny_bind (wpAny_seqItems g1 g3 ?_);ext aA;show wpAny _ _ (match ýE with|[k,v]=>_|l=>_) _ _ _;rw[g4];refine wpAny_holding (wpAny_dictSet_pairs g5 d1 λh2 d2 cO=>?_);have k2:Keeps B h2:=keep k1 hd cO;ext jn;have aev:ŀi it l Ķ:=by let⟨oi,i1,r⟩:=aeu;exact(oi,(cO.2 it (øv hdi)).trans i1,r)
  have:=ih Ķ _ {s with heap:=h2,toks:=Ăb} įX (λi q' e=>by
   have:=hq Ē q' e;rwa [show j+Ē=j+1+i by ext c]at this) k2 aev d2 (by have:=Br xs q;simp at hz;ext c) λh' tk a b=>hR h' tk a b
  ext n
def acB{l:Vi}[100][133][3]{qs:ĀR}[70](ho:Ũ l=Ă)(hc:ē7)(wz:úK=.seq items n)(hdn:ĈI)(hq:∀[5]q,ě7->∃u,đW=Ę/\jg knd ù u q)(hlen:Ąu=ûP)(hz:Ąu<=sizeLine)(h:∀h' tk,Keeps ù h'->ĠU knd ü (zh qs [])->Q øV ü1):wpAny û A (call ĀG [ûA]) Q E s:=by
 refine callType_codes (Q₁:=λobj ap=>obj=ùr/\ap = {s with heap:=ø0 ĕY }) F.kt_called_dict (F.kt_typeCall_dict_1 _) F.entry_dict_init (kt_code_dict_new _ ÿe) ?_;rintro obj ap ⟨rfl,rfl⟩;obtain⟨h0,e0⟩:∃h0,h0=ø0 ĕY:=ę
 have new:h0.DictOf knd ü []:=by rw[e0];exact ĻW ù
 have k0:Keeps ù h0:=λb u e=>by rw[e0];exact þ6
 have T:(ęU:Vh).TypeIs øV "dict":=Heap.DictOf.typeIs (s:=ęU) new;rw[<-e0];refine(T,F.args_dict_init_2 _ _,?_);unfold Builtin.«dict.__init__»;ext R;unfold Builtin.Dict.selfAndRest;ext iU;show wpAny _ _ (pure %[ü|[ü2 l]]) _ _ _;ext aA;show wpAny _ _ (İO "dict.__init__" ü ąF [] ė) _ _ _;unfold İO;refine wpAny_bind (wpAny_typeOf (T:="list") (o,k0 _ _ ho,hc) ?_);rw[øj];refine wpAny_bind (HN (s:=ęU) (k0 _ _ ho) hc wz hdn hh λh1 tk k1=>?_);rw[if_pos (show(none:Vd).isNone=true from rfl)];ext aO;have hl:ăB l items:=(o,ho,hc,n,wz)
 have k1':Keeps ù h1:=λb u e=>k1 b u (k0 b u e);refine wpAny_bind (wpAny_pyIter_list (s:={s with heap:=h1,toks:=tk}) (items:=items) (o,k1' _ _ ho,hc,n,wz) ?_);have fresh:Ũ û5=none:=by
  cases z:Ũ û5 with
  |none=>rfl
  |some u=>exact absurd (ŉ (k1' _ _ z)) úX
 have lt:ü<û5:=by let⟨q,_,_,hq,_⟩:=new;exact ŉ (k1 _ _ hq)
 ext jn;obtain⟨h2,e2⟩:∃h2,h2=ēP ĕx:=ę
 have k2:∀b u,Ą0 b=Ę->ēQ b=Ę:=λb u e=>by rw[e2];exact þ6
 have:=acA (knd:=knd) (A:=A.in1) (B:=s.heap) (l:=l) (d:=s.heap.objs.size) (it:=h1.objs.size) (R:=wants (λr dL=>r=ė/\Q øV dL) E) hh hl (ĳF ě) fresh (œ lt)
  qs 0 [] {s with heap:=h2,toks:=tk} ø (λi q e=>by rw[Ť];exact hq i q e) (λb u e=>k2 b u (k1' b u e)) (_,by rw[e2];ext ck,rfl,rfl) (new.extBut (λb u _ e=>k2 b u (k1 b u e)) (œ lt)) (ęM) (λh' tk' a b=>(rfl,h h' tk' a b))
 ext gH;ext n
open e
open e _H
namespace _A
open PySem.Spec PyProof.Rows
section
variable{s:Vh}[72]
def HW[0][168]:∃o,ġf/\aG X ak Y (upd H a ľQ) s:=by ext b;ext eH;let⟨o,es,ep,ho,r⟩:=id dd;ext a;exact(o,ho,tF I Ćz (rfl,ú5) (o,ho) (ho,z,hd,vs,rel,dd))
def aab:∀{aA:ùl}{vs:ěV},ĉA->∀[64]{k:κ}{x:V},Ďf->∃u,vs[i]?=some ēs/\ý2:=by
 intro aA vs r
 induction r with
 |nil=>intro i k x e;ext g
 | @cons p q ps qs h _ ih=>
  intro i k x e;cases i with
  |zero=>
   ext b;ext g;let⟨q1,q2⟩:=q;ext dt;have h1:k=q1:=h1;ext a;exact(q2,by rw[h1];rfl,h2)
  |succ i=>exact ih e
def aac{k:bF}{u:Vg}(h:ır):Ģm:=by
 rcases cJ h with⟨i,t,rfl,rfl⟩|⟨x,t,rfl,rfl⟩
 .exact ĄV
 .exact ĄV
open e
def Itf(d:Vi)(o:Obj):It:=(
 (λi H=>∃aA k x,čL/\Ďf,
  λi H v H'=>∃p k x,v=úI/\ø9/\H'=upd H p ķD/\∀aA,čL->Ďf,
  λi H=>∃aA,čL/\ø2<=i))
def Lu{d:Vi}[100][187][72](ho:ćV)[109](hd:čL):∃vs,ĉA/\h.DictAt ĉo d vs ep/\Ş=øl:=by
 ext b;let⟨hod,z,hdm,vs,rel,dd⟩:=(ok d _ hd)
 let⟨ep',Cw⟩:=dd.dictAt;let⟨o',M?,vX,bW,Bs,hk',hp',RU⟩:=id Cw;ext a;obtain rfl:o=o':=ĭF
 rw[ho]at Bs;injection Bs with e1 e2;subst e1 e2;refine(vs,rel,Cw,?_);have:=hp'.length;simpa using this.symm
def HX[18]{d:Vi}[3]{ok ov:Vg}(he:IsItemIter ù it d i n ep ok ov)(h:Q ùV s):wpAny û A ļ4 Q E s:=by
 have hT:Ā_ ùV "dict_itemiterator":=(_,he,rfl)
 refine wpAny_pyIter_slot hT Ĭ1 (wpAny_call_entry Ĭ1 hT W.kcp_entry ?_ (F.args_dict_itemiterator_iter_1 _));exact wpAny_pure (_,rfl,"dict_itemiterator",_,hT,F.slot_dict_itemiterator_next.lookup,h)
theorem DH{K:Va}[143]{d:Vi}[100][187](ho:ćV):
  Turn P w K ûX (Itf d o) [it] it (λi h=>∃ok ov,IsItemIter h it d i øl ep ok ov) where
 mem:=Ń
 obj:=λi h ľF c hc=>by
  have bW:c=it:=Ă_
  subst bW;exact ŁA
 keep:=λi h h' ľF k=>(ok,ov,k it Ĉ _ he)
 item:=by
  ext N;ext b;ext T;ext fK;let⟨aA,k,x,hd,ex⟩:=hg;ext jJ;let⟨ux,eux,rx⟩:=aab rel ex;have fz:=hf it Ĉ;ext a;refine wpAny_pyNext_items_item ıt Cw eux λkey h' Sr a1 a3 a4 a5=>ĈP
  ext gn;have Td:∀c∈[it],ĒQ:=ŀV;have kp:∀c u,c ∉ [it]->Ũ c=Ę->ùn c=Ę:=λc u bW q=>a5 c u ěd q;have xi:∀c u,H c=Ę->c ∉ [it]:=λc u q bW=>ĮQ
  have bE:jF Đ X.w ĆA h':=λc u q=>by
   ext gd
   .subst Q6;ext gh;exact(ėq,[key,ux],Ċ (aac Sr) ĻI,_,a3,rfl,_,rfl)
   .rw[aO Q6]at q;refine(I.bE c u q).oI ĭ2 Ľs ŀY
    ext dn
    .rw[q'];exact xi c u q
    ext dv
  have un:Un ÿR [it] H ĆA ù h':=
   (Ķr,ĵs,Ĩl,Ķq,
    ŀX,ľr,ĨV)
  have I1:aG X ak Y ĆA Ţ:=ĥz
  have oQ:it<ü:=ŉ he;have Q7:∀c∈[it],ĆA c=none:=λc bW=>by
   have JR:c=it:=ęK
   subst JR;rw[aO ĉu];exact Đs.1
  refine wpAny_letOwnedTupleGo_items a1 ľn;ext b;ext eM;have I2:aG X ak Y ĆA ĸV:=Ġo ĪL (Q7 it Ĉ) f1 f3 f4 f5;ext a;exact(ùr,_,I2,rfl,(_,k,x,rfl,hT,rfl,λzs hs=>by rw[hd]at hs;cases hs;exact ex),(_,_,by rw[<-hl];exact Tr),Q7)
 done:=by ext N;ext b;ext T;ext fK;let⟨aA,hd,hl0⟩:=hg;ext jJ;ext ao;ext a;exact wpAny_pyNext_items_end úE ıt Cw (čA (by rw[<-ğx];exact hl0)) Ħe
 self:=λ_ _ _ _ _ st h=>by ext b;ext fK;ext a;exact HX he h
section
variable[143]
def PJ(td:TE):TI:=(λY H R=>td Y H λx H1=>∃a aA,øo/\((H1 a=úJ/\∀ob,R ĐS (upd H1 a ěE))\/∃ob,H1 a=some ěE/\R ĐS H1))
def Lv(ho:Ġz)[406][101]:
  PI X ûX ĩ9 (PJ td):=by
 ext bn;refine wpAny_Call_method0_late iC iD (de ČG λv s1⟨x,H1,I1,r1,a,aA,ex,q1⟩=>?_);subst ex;obtain rfl:v=þe:=r1;have fin:∀(ob:Obj)(H2:Hp),H2 a=some ěE->aG X ak Y H2 s1->R ĐS H2->s1.TypeIs ś "dict" /\ (∀b,þe=øM->∃ob,s1.heap.get? b=ÿB/\ĜX) /\
   wpAny Ć X.A (call (Ő "dict.items") ùd) (λv s1=>wpAny Ć X.A ŁW (PIE X ak Y ûX R) X.xe s1) X.xe s1:=by
  intro ob H2 e2 I2 q;let⟨t1,t2,lo⟩:=C1 I2 (.inl (aA,.inr (ob,e2)));ext gl;let⟨hod,z,hdm,vs,rel,dd⟩:=(I2.bE a _ e2)
  let⟨o',es,ep,vX,bW,Bs,r'⟩:=id dd;obtain rfl:ob=o':=ĭF
  let⟨oV,ae6,Cw,hl⟩:=Lu Bs I2.bE e2;refine call_meetsIn İZ t1 PySem.F.entry_dict_items (PySem.F.args_dict_items_1 _) (meets_dict_items Ĉn a lo) ((vs,dd),?_);have I3:aG X ak Y H2 {s1 with heap:=Ĩw }:=I2.kept Āl;refine wpAny_pyIter_items Ār (Cw.push _) ?_;obtain⟨h3,e3⟩:∃h3,h3=Ĩw:=ę
  rw[<-e3]at I3⊢;have I4:aG X ak Y H2 {s1 with heap:=h3.push {cls:=ĸ "dict_itemiterator",data:=ûu #[ė,Ēd,Ņ,ġO,.int oV.length 0,.int ep 0,ė,ė]} }:=I3.kept Āl;refine(ĜU,[ĜU],_,_,H2,rfl,I4,DH Bs,(ė,ė,?_),Ĉ6,q)
  .rw[<-hl];ext ck
  .have e:c=ĜU:=Ă_
   ext l;exact I3.CF ě (I3.bE.fresh ě)
 rcases q1 with⟨e,q⟩|⟨ob,e,q⟩
 .let⟨ob,hob,I2⟩:=HW I1 e;let⟨t1,t2,t3⟩:=fin ob _ bg I2 (q ob);exact ĤS
 .let⟨t1,t2,t3⟩:=fin ob H1 e I1 q;exact ĤS
open e
def PrK(H:Hp)(v:V)(q:bF×V):Prop:=(∃b,v=øM/\H b=some (.tup [kV q.1,q.2]))
def rW(oh aA:ùU):ùU:=(oh.foldl (λa q=>putK a q.1 q.2) aA)
def aad(K:Va):ýi:=(λxs H Q=>∃a vs oh,ÿO/\kN K H a vs/\ĘL/\∀p,ø9->Q øA (upd H p (ěe)))
def aae{oh:ùU}{qs:Ĉd}(h:KV oh qs):∀[72]{xs:Ĉd},KV aA xs->KV (rW oh aA) (_H.zh qs xs):=by
 induction h with
 |nil=>exact λr=>r
 | @cons p q ps qs a _ ih=>
  intro aA xs r;have:=r.put p.1 a.2;exact ih (show KV ęh (ęS)from by rw[<-a.1];ext n)
theorem xS:∀(oh aA:ùU),(rW oh aA).length<=ø2+oh.length
 |[],aA=>ł
 |p::ps,aA=>by have h1:=xS ps ęh;have h2:=kS aA p.1 p.2;show(rW ps ęh).length<=_;rw[ă];ext c
def DI[26]:aW X ĀG (aad X.K):=by
 intro ak s Y H xs us Q I rx h;ext b;let⟨a,vs,oh,rfl,hs,pr,q⟩:=h;let⟨u,rfl,r1⟩:=vals1 rx;ext av;let⟨aE,rv,⟨o,n,ho,hc,hdn,wz⟩,hz⟩:=ù8 hs;have key:∀[17]{oh:ùU}{aE:Vc},ĘL->ĉG->∃qs:Ĉd,Ąu=ăW/\KV oh qs/\∀[5]q,ě7->∃u,aE[i]?=Ę/\_H.jg Ĉn ù u q:=by
  intro vs oh aE p
  induction p generalizing aE with
  |nil=>
   intro v;cases v;exact([],rfl,.nil,λi q e=>üh)
  | @cons x y xs ys b _ ih=>
   intro v;cases v with
   |cons v1 v2=>
    let⟨qs,l,k,al⟩:=ih v2;let⟨b,rfl,hb⟩:=b;cases v1;let⟨_,it2,rv2,o2,g1,g2,n2,g3⟩:=(I.bE b _ hb)
    let⟨w1,w2,rfl,z1,z2⟩:=vals2 rv2;refine(%[y.1|w2]::qs,Ěj,Ċ (rfl,z2) k,ņ3);cases i with
    |zero=>
     ext g;exact(_,rfl,b,o2,_,n2,w1,rfl,g1,g2,g3,rfl,uv z1)
    |succ i=>exact al i q e
 let⟨qs,ql,kt,al⟩:=key pr rv;have lv:Ş=ăW:=üe;have lp:oh.length=Ąu:=KV.length kt;ext a;refine _H.acB (knd:=bS Đ X.w) hh ho hc wz hdn (ņ3) (by rw[ql,Ľ]) ø λh' tk kp dd=>?_
 .ext b;let⟨u,e1,e2⟩:=al i q e;ext a;exact(u,by rw[ČR];exact e1,e2)
 .have hp:ďm:=Ćg;have hl:=xS oh [];exact(ùr,_,úQ kp ě (show cf Đ X.w _ h' _ (ěe) from(by simp at hl;ext c,Ĳ7,_,aae kt .nil,dd)),rfl,q _ hp)
open e _A
namespace _D
open PySem.Spec _A
open PyProof.Rows hiding St kindOf
def jw:bF->au
 |üJ=>ĝ
 |ý4=>ük
def rX:ý->łS
 |[]=>ûC
 |.tup [ÿL,v]::r=>(rX r).map (%[Ċy|v]:: ·)
 |_=>none
def ic(l a:ùS):ùS:=(l.foldl (λa q=>m_ a q.1 q.2) a)
def Bt:FN
 |øg,st=>match ſ with
  |đ=>match rX us with
   |Ċ5=>.ok øq (st++[.dK ĞI])
   |none=>.bad
  |none=>.bad
 |_,_=>.bad
section
variable{K:Va}
theorem Bu:∀[6][17][99],ū->rX us=Ċ5->∃oh,ĘL/\ŀf
 |[],vs,l,r,h=>by ext e;rw[r.dN];exact([],.nil,Ċo)
 |ı,vs,l,r,h=>by
  ext b;let⟨v,oV,rfl,r1,r2⟩:=r.bA;unfold rX at h;ext a;ext f
  .ext bC;ext g
  .rename_i k x sG e;ext g;cases z:rX us with
   |none=>ext v
   |some l'=>
    ext b;ext v;let⟨oh,p1,p2⟩:=Bu r2 z;let⟨b,zs,rfl,hb,rb⟩:=r1.AW;let⟨z1,z2,rfl,rk,rx⟩:=rb.un2;rw[rk.bK]at hb;ext a;exact(%[Ċy|z2]::oh,Ċ ĝp p1,ĄZ rx p2)
  ext aj
theorem Bv:∀[99]{oh:ùU}{a:ùS}{b:ùU},ŀf->eJ K O H a b->eJ K O H (ic l a) (rW oh b)
 |[],oh,a,b,p,r=>by rw[p.dN];exact r
 |(k,u)::l,oh,a,b,p,r=>by let⟨v,l',rfl,r',p'⟩:=p.bA;show eJ K O H (ic l (m_ a k u)) (rW l' (putK b k v));exact Bv p' (r.put k r')
open e
def DJ[26][39]:aW X ĀG (cM ā E Bt):=by
 refine ùe (DI hh) ?_;rintro xs H Q ⟨O,st,us,sr,r,h⟩;unfold Bt at h;ext f
 .ext ag;ext z;ext t;ext f
  .ext aI;ext f
   .rename_i l hl;ext bh;let⟨oh,p1,p2⟩:=Bu rv hl;refine(a,vs,oh,rfl,hs,p1,øL);have s:=b7 (o:=ěe) hp;let⟨k1,k2,k3⟩:=oY sr hp (c:=.dK ĞI) (_,bg,(Bv p2 Ċo).mono ĞR);ext ay
   ext h
  ext h
 ext h
def zi:F2:=(sF λi j st=>if Ės then .ok (ĹT) st else .bad)
def orV:F2:=(sF λi j st=>.ok (Ľw) st)
def zj:FN:=(λus st=>match us with
 |øg=>sumF øg st
 |_=>Lk us st)
def HY:FN
 |ąP,st=>match ûL with
  |some (ą2)=>.ok (.int ĩ6) st
  |_=>.bad
 |_,_=>.bad
def PL:dE X ĳk (rM ā E zi):=by
 refine ùf PF ?_;ext H;ext b;ext G;ext cV;ext a;by_cases hj:Ės
 ext ip
 ext jU
def aaf:dE X Ĵr (rM ā E orV):=by refine ùf abj ?_;ext H;ext b;ext G;ext bj;ext a;exact ėm
def HZ[26]:aW X ăM (cM ā E zj):=by
 intro ak s Y H xs ws Q I r h;ext b;let⟨O,st,us,sr,r',h'⟩:=h;unfold zj at h';ext a;split at h'
 .exact Hu hh ak s Y H xs ws Q I r Ĵl
 .exact HS hh ak s Y H xs ws Q I r Ĵl
def DK[26]:aW X ýx (cM ā E HY):=by
 refine ùe (Bq hh) ?_;ext S;ext b;ext P;unfold HY at h;ext a;ext f
 .ext dO;ext b;ext z;ext a;ext f
  .rename_i n ns hk;ext b;rw[fC hk]at r1;ext aE;rw[ąY ra]at ha;ext a;exact(a,ą2,rfl,ha,Ń,ùc)
  ext h
 ext h
def gu[2][7]:łS:=(match Š with
 |úJ=>āt
 |þP=>āt
 |_=>none)
def zl{K:Va}[8][3][112](h:ēO=āt)[180]:∃cg,Rd H a ĒF/\ĀF:=by
 unfold gu at h;ext f
 .ext ci;ext b;ext e;let⟨cg,h1,h2⟩:=ûy n _ a z ha;ext a;exact(cg,.inl h1,h2)
 .ext ci;ext b;ext e;let⟨o,cg,h1,h2⟩:=ûy n _ a z ha;ext a;exact(cg,Ņp,h2)
 ext aj
def u_:FN
 |øg,st=>match ēO with
  |āt=>.ok (ġQ) st
  |none=>.bad
 |_,_=>.bad
def u!:ŭ->ăS
 |[]=>ûC
 |üJ::r=>ĹI
 |.inr _::_=>none
def H9:∀{l:ŭ}{a:Vb},u! l=Ō->l=ąX ûv:=by
 intro l
 induction l with
 |nil=>intro a h;ext e;rfl
 |cons x r ih=>
  intro a h;cases x with
  |inl i=>
   replace h:ĹI=Ō:=h;cases z:u! r with
   |none=>ext v
   |some b=>ext v;rw[ih z];rfl
  |inr x=>ext e
def qw:FN
 |øg,st=>match ēO with
  |āt=>match u! Ĕ_ with
   |some (i::ns)=>.ok (.int (ąW (λj=>(i::ns).getD j 0) ų)) st
   |_=>.bad
  |none=>.bad
 |_,_=>.bad
def itK(aA:ùS):ý:=(þW λp=>.tup ł8)
def zo[7](aA:ùS):Itm:=((itK aA,λbP=>bP[n]?=þP))
def lK(m:ME):MI:=(λZ st=>ø4 λv ay=>match v with
 |Ġ=>match ay[n]? with
  |úJ=>.ok ĞO (ay.set n ĉm)
  |þP=>.ok ĞO ay
  |_=>.bad
 |_=>.bad)
def DM:aW X ăL (cM ā E u_):=by
 refine ùe HV ?_;ext S;ext b;ext P;unfold u_ at h;ext a;ext f
 .ext ag;ext b;ext z;ext t;ext a;ext f
  .ext dM;ext b;ext eQ;ext a;refine(a,cg,rfl,h1,?_);have l:ŀP:=by have:=congrArg ýs h2.1;ext bY
   rw[<-l];exact ùc
  ext h
 ext h
def DN[26]:aW X ýx (cM ā E qw):=by
 refine ùe (zg hh) ?_;ext S;ext b;ext P;unfold qw at h;ext a;ext f
 .ext ag;ext b;ext z;ext t;ext a;ext f
  .ext dM;ext f
   .rename_i i ns z;ext b;ext eQ;ext a;exact(a,cg,i::ns,rfl,h1,by rw[<-h2.1];exact H9 z,Ń,ùc)
   ext h
  ext h
 ext h
def PN{K:Va}{cg:ùU}(p:ĀF){k:bF}(h:aA[i]?=some ēs):∃x,cg[i]?=some Ĕl/\Ĉu:=by
 have h1:Ņm[i]?=Ę:=ĺC
 ext b;let⟨x,e1,r⟩:=p.2.get h1;ext a;have h2:ĻE:=ĺC
 rw[p.1]at h2;rw[ĭ]at e1 h2;cases z:cg[i]? with
 |none=>rw[z]at h2;ext ab
 |some q=>
  ext b;rw[z]at e1 h2;cases e1;ext ab;ext a;exact ĞD
def aag{K:Va}(k:bF):Rl K O H (jw k) Ēl:=by
 cases k with
 |inl i=>exact Ā8 i
 |inr x=>exact Ąo x
def xT{K:Va}[3]{cg:ùU}[180](hd:H a=some īh):ItR K O H ĞO ĐS:=by
 ext bR;ext b;let⟨o2,l2,c1,c2⟩:=ûy n _ a g ĝq;have c3:=e.jl _ _ _ hd;rw[c3]at c1;injection c1 with c1;injection c1 with d1 d2;injection d2 with d2;subst d1 d2;ext a;refine(ď',λhi=>(cg,c3,?_))
 .have hu:((þW λp=>ý7 ł8):ý)[i]?=Ę:=hu;rw[ĭ]at hu;cases z:aA[i]? with
  |none=>ext oK
  |some q=>
   ext b;let⟨k,u'⟩:=q;ext oK;let⟨x,e1,r⟩:=PN c2 z;ext a;refine((cg,k,x,c3,e1),λv H'' y=>?_);ext b;let⟨p,k',x',rfl,hp,rfl,y⟩:=y;have e2:=(y cg c3).ĀY e1;injection e2 with e2;injection e2 with e2 e3;subst e2 e3;have s:=b7 (o:=.tup [kV k',x']) hp;ext a;exact(ēG s,ēX s,ûM bg (Ź (aag k') (āE (üy ýw _ _ r))))
 .have l:ŀP:=by have:=congrArg ýs c2.1;ext bY
  rw[<-l];simpa[zo,itK]using hi
def u?[143]{m:ME}[26][506][406][101]:
  PI X ûX ĩ9 (tI X E (lK m)):=by
 refine ąm (Lv ho iC iD) ?_;ext ca;ext b;ext k;ext a;ext y;cases u with
 |loc n=>
  ext b;ext t;ext bq;ext a;cases z:aK[n]? with
  |none=>ext aU;ext s
  |some c=>
   ext aU;cases c with
   |dK aA=>
    let⟨cg,hd,pr⟩:=ēK n _ a z ha;refine(a,cg,rfl,.inl (hd,λob=>?_));have sp:aD bv H1 bv ĹJ:=ĊI hd Ľq ĹO;have m9:SR X.K bv (aK.set n ĉm) ĹJ:=bG.set z rfl rfl ha hd Ľq ĹO (ob,cg,bg,pr.mono sp);exact h1 bv _ _ sp m9 (xT ha bg)
   |fd aA=>
    ext b;let⟨ob,cg,hd,pr⟩:=ēK n _ a z ha;ext a;exact(a,cg,rfl,.inr (ob,hd,h1 bv H1 _ Ģ bG (xT ha hd)))
   |_=>ext s
 |_=>ext s
open e _D
namespace _E
open PySem.Spec _A _D
open PyProof.Rows hiding St
def dz:FN:=(fL 4 4 (aB (nK ûT "by_degree" aM (ao jc bo ĝv)) (aB (nK ûT "many" aM bB) (aB (nK ûT "width" aM (ao cA (Rb bX) (mC đq))) (nK ûT "guards" aM (ax zj (ag (b9 1 [0] (bZ øG) ĩ aU ĥH) aw)))))))
def dA:FN:=(fL 2 4 (aB (aN 2 (Oo (bx ėD) Ĝi bp)) (aB (fj üz ød (Ĭe)) ĄT)))
def bM:FN:=(fL 2 3 (aB (aN 2 (ao gb (ao zi cG Ėq) cG)) (bb (ax n_ (ag (b9 1 [2,1,0] (uT (ag (ao gb (dZ ûT "many" aM) cG) (ag ġD (ag ġD aw)))) ĩ aU (İ2)) aw)))))
def bT:FN:=(fL 1 2 (fj Ą9 ēi ĕn))
def cy:FN:=(fL 3 3 (bb (ax Bt (ag (b9 2 [2,0] (lK bo) þG aU (ĨJ)) aw))))
def bc:FN:=(fL 2 4 (aB (aN 2 bp) (aB (dP (Ďv) ĪX aT) (aB (aN 3 (ao cw (ao cA (ao du bB Ĵs) (ao du Ļa (mC (.int 7919)))) (mC Ďk))) (aB (aN 3 (ao cw (ao du ħ7 Ĵs) (mC Ďk))) (bb (ao cA (ao du bX įZ) ħ7)))))))
def jJ:FN:=(fL 2 4 (aB ĝg (aB (fj ęy ød (ĥi)) (bb (cH (ag (ax n_ øG) (ag (ao cA cG (ao cw aM Ĺm)) aw)))))))
def cK:FN:=(fL 2 2 (bb (ax Bt (ag (b9 2 [0] üz þG aU (ħS)) aw))))
def jK:FN:=(fL 1 9 (aB (aN 1 (bL (ag Ļp (ag v5 (ag i! (ag (mC (.int 5)) (ag (mC (.int 13)) (ag ĹB (ag Hb (ag (mC (.int 17)) (ag (mC (.int 19)) (ag (mC (.int 23)) (ag (mC (.int 29)) (ag (mC (.int 31)) (ag (mC (.int 37)) (ag (mC (.int 41)) (ag (mC (.int 43)) (ag (mC (.int 47)) (ag (mC (.int 53)) (ag (mC (.int 59)) (ag (mC (.int 61)) (ag (mC (.int 67)) (ag (mC (.int 71)) (ag (mC (.int 73)) (ag (mC (.int 79)) (ag (mC (.int 83)) (ag (mC (.int 89)) aw))))))))))))))))))))))))))) (aB (aN 2 (ax üP (ag aM ĝj))) (aB (aN 3 (ao cw (ao iL bB i!) qc8)) (aB (aN 4 (ao aQ (bL (ag (qs "lex") (ag ĝv aw))) (ao cw bB i!))) (aB (aN 5 (ao aQ (bL (ag i! (ag cG (ag i! (ag v5 (ag i! (ag cG (ag v5 ĝj)))))))) bX)) (aB (aN 6 (ao aQ (bL (ag i! (ag JY (ag i! (ag cG (ag cG (ag qc8 (ag cG ĝm)))))))) bX)) (aB (aN 7 (ao aQ (bL (ag v5 (ag JY (ag i! (ag i! (ag JY (ag qc8 (ag i! ĝm)))))))) bX)) (aB (aN 8 (ao aQ bo (ao cw (ax üP (ag aM ø6)) (mC (.int 25))))) (bb (cH (ag A3 (ag gf (ag fI (ag jS (ag tJ (ag (ao aQ (bL (ag i! (ag v5 (ag v5 (ag v5 (ag i! (ag i! (ag v5 ĝi)))))))) bX) aw)))))))))))))))))
def gK:FN:=(fL 2 5 (aB ĝg (aB (fj üz ød (bH Ěr)) (aB (aN 4 (Oo ĬT īG cG)) (bb (Bn "Packing" _E.dz (ag aM (ag gf (ag (Fd (b9 2 [] (dy bB) þG aU ľ7) bp) aw)))))))))
def dB:FN:=(fL 3 3 (aB (nK ýr "top" aM ľ_) (aB (nK ýr "back" aM (ax ĒA (ag bo (ag (ao k_ bB (dZ ýr "top" aM)) aw)))) (nK ýr "tail" aM (b9 2 [1,0] (lK bB) þG (Ĭg) (ĦR))))))
open e _E
namespace _D
open PySem.Spec _A
open PyProof.Rows hiding St kindOf
def DO(d k:au)[2]:ú0:=(match d with
 |Ġ=>match Š with
  |úJ=>match jG k with
   |ÿA=>match j! aA ks with
    |Ĥ=>.ok v (üF n (.dK (rT aA ks)))
    |none=>.bad
   |none=>.bad
  |_=>.bad
 |_=>.bad)
def ko(d k:ME):ME:=(λZ st=>Ļf λdv aK=>if ŀE then Ļm λkv bP=>DO dv kv bP else .bad)
section
variable{md mk:ME}
def Lw[275][503](m:autoParam (ıF) ņM):PE X Īo (tE X E (ko md mk)):=by
 refine İ (JE ho he m) ?_;ext p;ext b;ext k;ext a;ext bI;ext Z
 .rename_i hd;ext b;ext kE;ext a;refine ĺ7;ext ek;have r1':=ĆB;unfold DO at h2;ext cg
  .ext ag;ext b;let⟨a',ea,ha⟩:=r1'.cY;cases ea;ext a;ext cg
   .rename_i aA hn;ext b;let⟨l,hl,p⟩:=m9.cell n _ a hn ha;ext a;ext cg
    .rename_i ks hk;have hy:=tK r2 hk;subst hy;ext cg
     .rename_i v hv;rcases p.val ks with⟨z,_⟩|⟨u',v',z,zv,rv⟩
      .rw[hv]at z;cases z
      .rw[hv]at z;cases z;have aah:aD dl H2 dl (upd H2 a (.dK (rD l ks))):=ęJ;refine(l,ks,v',hl,rfl,zv,h2 dl _ v' aah ?_ (üy aah _ _ rv));exact m9.set hn rfl rfl ha hl Ć_ ĆQ (_,bg,(p.drop ks).mono aah)
     .ext Y
    .ext Y
   .ext Y
  .ext Y
 ext ac
def Lx:MB:=(λ_ st=>.rt .cq st)
def PQ:PS X ĳf (tS X E Lx):=by refine úR Nv ?_;ext al;ext b;ext k;ext a;exact h O H .cq Ģ sr Rl.AX
open e
open e _D
namespace _F
open PySem.W PyProof.Rows
def sM[10](xs ys:Vb):Bool:=(if øR then !(úH)else þB)
def xU[1][24]:sM b ġx ġy=if i=j then sM b xs ys else ýn:=by
 have z1:lexLt ġx ġy=if i=j then þB else ýn:=rfl
 have z2:lexLt ġy ġx=if j=i then úH else ďa:=rfl
 ext dD
 .ext l;rw[Ī]at z1 z2⊢;ext oP
 .rw[ün]at z1⊢;rw[ĸJ]at z2;ext oP;cases b with
  |false=>rfl
  |true=>
   by_cases q:i<j
   .rw[ĺH,ùo];rfl
   .rw[ĸC,ü'];rfl
section
variable[18]
def PR{c:Vi}[369][308](hb:Ũ c=ÿB)[307](h:P (ûK (.ret (øk (Ľ9)))) s):
  wpAny û A (Builtin.«tuple.__lt__» Ĵo) P E s:=by
 show ħM;ext cq;refine wpAny_forIn_list _ (λrest r s'=>ĢI/\s'=s/\∃x' y' sG oV,Ę'/\ěT/\ěS/\Ľ8=Ľ9/\Ėv) _ ?_ ?_ _ _
  ĕv
 .ext fJ;ext b;ext ej;ext a;cases hx with
  |nil=>ext au
  | @cons i t T! x1 Us=>
   cases hy with
   |nil=>ext au
   | @cons j t2 vs1 y1 hy1=>
    ext eg;rw[xU]at hl;ext dD
    ext me
    .ext nE;ext aO;refine wpAny_bind (lt_int ?_);rw[show ýn=ýn from İi,hl];ext fN
 .ext gt;ext b;ext ei;ext a;ext eJ;rw[<-hl]at h;have hb:ĺE=Ľ8:=by
   cases hx with
   |nil=>
    cases hy with
    |nil=>rw[Ķc];rfl
    |cons _ _ _=>ext fo
   |cons _ _ _=>
    cases hy with
    |nil=>ext fg
    |cons _ _ _=>ext au
  show P (ûK (.ret (øk (ĺE)))) s';rw[hb];ext j
def PU{c:Vi}[369][308](hb:Ũ c=ÿB)[307](h:P (ûK (.ret (øk (ŀy)))) s):
  wpAny û A (Builtin.«tuple.__le__» Ĵo) P E s:=by
 show ħM;ext cq;refine wpAny_forIn_list _ (λrest r s'=>ĢI/\s'=s/\∃x' y' sG oV,Ę'/\ěT/\ěS/\ŀx=ŀy/\Ėv) _ ?_ ?_ _ _
  ĕv
 .ext fJ;ext b;ext ej;ext a;cases hx with
  |nil=>ext au
  | @cons i t T! x1 Us=>
   cases hy with
   |nil=>ext au
   | @cons j t2 vs1 y1 hy1=>
    ext eg;rw[xU]at hl;ext dD
    ext me
    .ext nE;ext aO;refine wpAny_bind (le_int ?_);rw[show ě2=ýn from İi,hl];ext fN
 .ext gt;ext b;ext ei;ext a;ext eJ;rw[<-hl]at h;have hb:ĸA=ŀx:=by
   cases hx with
   |nil=>
    cases hy with
    |nil=>rw[decide_eq_true ĨD];rfl
    |cons _ _ _=>ext fo
   |cons _ _ _=>
    cases hy with
    |nil=>ext fg
    |cons _ _ _=>ext au
  show P (ûK (.ret (øk (ĸA)))) s';rw[hb];ext j
def aai[311](h:Q (øk (þB)) s):
  wpAny û A (compareOp .Lt ś þb) Q E s:=by
 ext b;ext dZ;ext a;refine cmp_ofLt (wpAny_richCompare_same_room ül ĐT ĲJ ?_ hu);refine wpAny_call_entry ĲJ ül PySem.F.entry_tuple_lt (PR ho hc hd oG tD hd2 hi Cv ?_) (PySem.F.args_tuple_lt_2 _ _);ext cQ
def aaj[311](h:Q (øk (!(úH))) s):
  wpAny û A (compareOp .LtE ś þb) Q E s:=by
 ext b;ext dZ;ext a;refine cmp_ofLtE (wpAny_richCompare_same_room ül ĐT ĲI ?_ hu);refine wpAny_call_entry ĲI ül PySem.F.entry_tuple_le (PU ho hc hd oG tD hd2 hi Cv ?_) (PySem.F.args_tuple_le_2 _ _);ext cQ
def xV[23](h:ýo):∀[194](h1:j<ĉ)(h2:j<ų),∃t,us[j]=.int ns[j] t:=by
 induction h with
 |nil=>intro j h1;ext aL
 |cons n t _ ih=>
  intro j h1 h2;cases j with
  |zero=>exact ĄV
  |succ j=>exact ih j (čq h1) (čq h2)
def LA{x y:Vg}[164][453](hl:į=û7):þ3 A s x y (Ńr):=by
 ext b;ext hC;have l1:=ĠV;have l2:=Cv.length;rw[Ĩ]at l1 l2;ext a;ext dC
 .ext b;ext l;rw[ho]at oG;cases oG;rw[hd]at hd2;cases hd2;have:ąL:=by rw[<-Dw hi,<-Dw Cv]
  ext a;rw[decide_eq_true this];ext dh
 .refine Ķ8 e ?_;have z:=ĸi (e:=ĭl) (o,ho,hc,n,hd) (o2,oG,tD,n2,hd2) hu (λj h1 h2=>by
   let⟨t,e1⟩:=xV hi j (by rw[Ĩ];ext an) ø;let⟨u,e2⟩:=xV Cv j (by rw[Ĩ];ext ai) ø;rw[Ć8]at e1 e2;rw[e1,e2,ûQ,Ą4,ûQ,Ą4];ext ot)
  have b2:((û2 (min ģI cP.size)).all (ĭl)&&ĺl)=Ńr:=by
   rw[show(ĺl)=true by rw[beq_iff_eq];ext c,ć9];rw[ćc,Ĺ3,decide_eq_true_iff];ext D
   .intro q;refine Ěc hl λj h1 h2=>?_;have:=ùs (q j (Ķ0 ø));rw[ûQ,ħ h1,ûQ,ħ h2]at this;ext n
   .intro q j _;rw[q];ext dg
  rw[b2]at z;ext o
def lN[96][15](v:Vg)(k:Vb):Prop:=(∃e c x t a o n,k=e++[c]/\ùw=m/\úT/\ýJ/\ýu /\ úK=.seq #[x,.int c t] n/\fQ h x e)
theorem qy:∀{e f:Vb}{c d:Int},ùT->İ'=if e=f then Ńn else lexLt e f
 |[],[],c,d,_=>by
  show(if c=d then false else Ńn)=if([]:Vb)=[]then _ else _
  ext ae;by_cases z:c=d
  .rw[øO,ùo]
  .rw[ů]
 |i::e,j::f,c,d,h=>by
  have ih:=qy (c:=c) (d:=d) ĄW;show(if i=j then İ' else ýn)=if i::e=j::f then _ else if i=j then lexLt e f else ýn
  ext aH
  .ext A;rw[Ī,Ī,ih];by_cases y:e=f
   .ext kK
   .rw[ĉH,if_neg (λq=>y (þE q).2)]
  .rw[ů,ů,if_neg (λq=>z (þE q).1)]
def PV[151][371][164](h1:lN m ù x xs)(h2:lN m ù y ys)(h:đL):wpAny û A (keyLt' (tuples' false) x y) Q E s:=by
 ext b;let⟨e,c,x1,t,a,o,n,rfl,l1,rfl,ho,hc,hd,hx⟩:=h1;let⟨f,d,y1,t2,a2,o2,n2,rfl,l2,rfl,oG,tD,hd2,hy⟩:=h2;rw[qy ø]at h;ext a;refine kat_lt ho hd oG hd2 ?_;refine kat_cons (LA hu hx hy ø prog w _ _ ?_);by_cases z:e=f
 .ext dQ;rw[ćL];refine kat_yes (ŃC);by_cases y:c=d
  .rw[ăc y];refine kat_yes (ğr);rw[ùo]at h;ext j
  .rw[ú2 y];exact kat_no (ıX)
 .rw[ů]at h;rw[ĸD];obtain⟨b1,rfl⟩:∃b,x1=øM:=ĩf
  obtain⟨b2,rfl⟩:∃b,y1=øM:=ĩg
  exact kat_no (kat_one _ _ (aai hu hx hy h))
open e
def aak[15]:Vg->Vb
 |Ņ=>match úW with
  |Ă=>match úK with
   |.seq aE _=>jG h (aE.getD 0 ė)++[nOf (aE.getD 1 ė)]
   |_=>[]
  |none=>[]
 |_=>[]
def PX[151]{v:Vg}{k:Vb}(t:lN m h v k):aak h v=k:=by ext b;let⟨e,c,x,tk,a,o,n,rfl,_,rfl,ho,_,hd,hx⟩:=t;ext a;unfold aak;ext d;rw[ho];ext d;rw[hd];show jG h x++[c]=_;rw[Lc hx]
def lN.to[151]{v:Vg}(t:lN m h v xs)[323]:lN m h' v xs:=by ext b;let⟨e,c,x,tk,a,o,n,e1,e2,e3,ho,hc,hd,hx⟩:=t;ext a;exact(e,c,x,tk,a,o,n,e1,e2,e3,Ńv,hc,hd,hx.to hk)
def Kd[94][96][15](v:Vg)(k:Vb):Prop:=(if āI then lN m h v k else fQ h v k)
def pq[94][15](v:Vg):Vb:=(if āI then aak h v else jG h v)
def pz[60][448]:pq p h v=k:=by
 unfold Kd at t;unfold pq;cases p with
 |true=>rw[Ī]at t⊢;exact PX t
 |false=>rw[ņ]at t⊢;exact Lc t
def Kd.to[60][448][323]:Kd p m h' v k:=by
 cases p with
 |true=>exact lN.to t hk
 |false=>exact fQ.to t hk
section
variable[18][60][151]
def acC[371][164](h1:Kd p m ù x xs)(h2:Kd p m ù y ys)(h:đL):wpAny û A (keyLt' ď4 x y) Q E s:=by
 cases p with
 |true=>exact PV hu h1 h2 h
 |false=>exact aco h1 h2 h
theorem LB{h:Heap}:∀{vs:Vc},(∀v∈vs,∃k,łK)->∃fs,KatTups h vs fs/\Ă2=Ş/\∀f∈fs,if āI then(∃a o,f=Ņ/\ýJ/\ýu)else ∃n u,f=.int n u
 |[],_=>([],.nil,rfl,λv m=>ùt)
 |ċS,al=>by
  ext b;let⟨fs,k,l,af⟩:=LB λv mv=>al v (š _ mv);let⟨ky,t⟩:=al v ċ;ext a;cases p with
  |true=>
   ext b;let⟨e,c,x,tk,a,o,n,_,_,rfl,ho,hc,hd,hx⟩:=t;ext a;ext hy
   .ext b;let⟨_,b,o2,aE,n2,rfl,oG,tD,_⟩:=hx;ext a;exact(b,o2,rfl,oG,tD)
   .exact af v mv
  |false=>
   ext b;let⟨ne,a,o,aE,n,rfl,ho,hc,hd,hi⟩:=t;let⟨aE⟩:=aE;ext a;cases hi with
   |nil=>ext dp
   |cons m u r=>
    ext hy
    .exact đu
    .exact af v mv
def PY{Q:SortKind->øE}(t:ĭo)(h0:0<Ş)(h:Q ď4 s):wpAny û A (keyKind' øH) Q E s:=by
 let⟨fs,k,l,al⟩:=LB t;cases p with
 |true=>
  refine kat_kind (T:=ùk) k Ĳa ĿI ø h;let⟨a,o,rfl,ho,hc⟩:=al v m;rw[<-hc];exact(Looks.ld ho).andThen .now
 |false=>
  refine kat_kind (T:=ĸ "int") k Ĳa ĿI ø h;let⟨n,u,rfl⟩:=al v m;exact Looks.of_pure rfl
def H_[3]{P:ěn}[164](ho:Ũ a=some (seqObj "list" øH n))[403](h:∀zs:Vc,đi->Ęc->P Ņa {s with heap:=sortedHeap ù a vs ăP}):
  wpAny û A (Builtin.«list.sort» (ùd,ıN)) P E s:=by
 rw[list_sort_rev];have small:ļq<=sizeLine:=by rw[Ľ];ext aa
 let⟨h1,e1⟩:=NE (ďV a (þ2 λ_=>(#[]:Ů)))
 obtain⟨c1,ho1⟩:∃c,Ą0 a=some (seqObj "list" #[] c):=(_,by rw[e1];exact get?_update_seq ho đj)
 let⟨h6,e6⟩:=NE (ĨF)
 have ho6:h6.get? a=some (seqObj "list" #[] c1):=by rw[e6];exact Ł _ (Ł _ ho1)
 have kp:∀b o,Ŵ->ýu -> h6.get? b=Ă:=λb o hb hc=>by
  rw[e6,e1];refine Ł _ (Ł _ ?_);have ne:a≠b:=λz=>by rw[<-z,ho]at hb;cases hb;exact absurd (Value.type.inj hc) ø
  exact č' hb
 let⟨kf,hkf⟩:=NE Ğp
 have t6:∀v∈vs,Kd p m h6 v (kf v):=λv mv=>by ext nl;rw[hkf,pz tk];exact tk.to kp
 rw[<-hkf]at nd h;refine wpAny_bind (listItems_at ho rfl (wpAny_bind (listUpdate_at ho rfl ?_ small ûH)));rw[<-e1];refine wpAny_bind (seqEpoch_at ho1 rfl (wpAny_bind (wpAny_newTuple ?_ ĵp)));refine wpAny_bind (wpAny_newList ?_ ûH);refine čI;show wpAny û A _ P E {s with heap:=ĨF};rw[<-e6];have ends:∀zs:Vc,đi->Ņ'->P Ņa {s with heap:=h6.update a (þ2 λ_=>ăP)}:=by intro zs z1 z2;have:=h zs z1 z2;unfold sortedHeap at this;rw[<-e1,<-e6]at this;ext n
 ext d;ext ae;ext aO;by_cases h2:ļq<2
 .rw[if_pos h2,if_pos h2];ext Q;rw[StateT.run_pure];ext Q;ext d;rw[Ľ]at h2;have out:(ĕZ)=øH:=by rw[Array.map_reverse,Array.reverse_reverse];ext bO;rw[ĹU,ĹV];show List.map _ (vs.zip vs)=vs;rw[List.map_snd_zip ě]
  ext hz
  .show wpAny _ _ _ _ _ {s with heap:=h6.update a (þ2 λ_=>(ĕZ))};rw[out];ext jr;refine wpAny_pure (ends _ (ĂN) ?_);unfold dH;exact pw2 (by ext w;ext ai)
  .show(ĕZ).size<=_;rw[out,Ľ];ext c
 .rw[if_neg h2,if_neg h2];have l2:2<=Ş:=by rw[Ľ]at h2;ext c
  let⟨rs,er⟩:=NE vs.reverse
  have mr:∀v,v∈rs↔v∈vs:=λv=>by rw[er];exact List.mem_reverse
  have lr:rs.length=Ş:=by rw[er,øY]
  let⟨ks,ek⟩:=NE (ý3 kf)
  have ndk:ān:=by rw[ek,er,Ĺ7];exact(ĆC).ďT nd
  refine wpAny_bind (PY (p:=p) (m:=m) (s:=ęW) (λv mv=>(_,t6 v mv)) ø ?_);have pr:(ķl).reverse=įH:=by have:=kat_pairs true (ks:=vs) rfl;rw[Ī]at this;rw[this,er];rfl
  rw[pr];let⟨X,eX⟩:=NE (įH)
  rw[<-eX];have xl:ĒY=ý3 ņ6:=by rw[eX,ĹV];rw[List.zip_eq_zipWith,List.zipWith_self]
  have sX:∀x∈X,x.1∈vs:=λx hx=>by rw[<-ĘI,xl]at hx;let⟨v,hv,rfl⟩:=Ĕ hx;exact(mr v).mp hv
  have mk:∀v∈vs,kf v∈ks:=λv mv=>by rw[ek];exact ĂY ((mr v).mpr mv)
  have C:_G.HI prog w A ęW ď4 (λx=>x.1∈vs) Ģ_:=by rintro x y Q mx my q;replace q:Q (decide (ėC<rk ks (kf y.1))) ęW:=q;rw[Rt (mk _ mx) (mk _ my)]at q;exact acC hu (t6 _ mx) (t6 _ my) q
  have dX:_G.Di (Ģ_) X:=by
   unfold _G.Di;rw[xl,ğ];have:ý3 ((λx:Keyed=>ėC) ∘ ņ6)=ąu (rk ks):=by rw[ek,ğ];rfl
   ext aK;exact Le ndk
  have zX:ĵ=rs.length:=by rw[<-Ĩ,xl,č]
  rw[if_pos (rfl:true=true)];refine wpAny_bind (wpAny_mono (_G.acq (Q:=λ_ ay=>∃σ pd g,ay=þ8 ď4 σ pd g none/\øX/\_G.Up (Ģ_) σ 0 ĵ) C sX dX ø λσ pd g y1 y2=>(σ,pd,g,rfl,y1,y2)) ?_ ğJ);rintro⟨⟨⟩,ay⟩ s' ⟨rfl,σ,pd,g,rfl,y1,y2⟩;have zY:ĐQ:=by rw[<-Ĩ,y1.length_eq,Ĩ]
  let⟨zs,ez⟩:=NE ((σ.toList.map λx=>x.2).reverse:Vc)
  have zp:đi:=by rw[ez];refine Ŀz ((y1.map _).trans ?_);rw[xl,ğ];show(ý3 λv=>v).Perm vs;rw[List.map_id',er];exact ĆC
  have same:∀x∈ġk,x.1=x.2:=λx hx=>by have:=ďX hx;rw[xl]at this;let⟨v,_,rfl⟩:=Ĕ this;rfl
  have zf:Ņ':=by unfold dH;rw[ez,Ĺ7,List.pairwise_reverse,ğ,ęF];have u:=y2.rS;rw[<-zY,_G.eM]at u;have d:=ûV (dX.to y1);refine Ād (λ{a b}ha hb q=>?_) (List.Pairwise.and u d);have ma:=sX a (ĆO (ďX ha));have mb:=sX b (ĆO (ďX hb));have q1:rk ks (kf a.1)<=rk ks (kf b.1):=q.1;show lexLt (kf a.2) (kf b.2)=true;rw[<-same a ha,<-same b hb,<-Rt (mk _ ma) (mk _ mb)];exact ü'
  have out:(σ.map ŗ).reverse=ăP:=by ext bO;rw[Ćt,ĹU,ez]
  have lz:ďe<=sizeLine:=by have:=zp.length_eq;ext c
  ext hz
  .rw[Ī,out];ext jr;exact wpAny_pure (ends zs zp zf)
  .rw[Ī,out,Ľ];exact ęG lz
def zt{l:Vi}(hu:Ĝ3)(hl:ăB l øH)[403](h:∀(h':Heap)(l':Vi)(c:Nat)(zs:Vc),Ĕ5->ü<=l'->đi->Ęc->ùn l'=Į5->Q (.ref l') Ţ):
  wpAny û A (call Ět [ûA] ıN) Q E s:=by
 refine call_function_entry_kw kind_sorted plain_sorted entry_sorted (args_sorted_rev _ _) ?_;unfold Builtin.«sorted»;ext Q;refine wpAny_bind (collect_list hl ?_ hz);let⟨h1,e1⟩:=NE ((ø0 ĆF).update ü (þ2 (· ++ øH)))
 have k1:∀b o,Ŵ->Ą0 b=Ă:=λb o e=>by rw[e1];exact(üZ _ _ (ûd ýH)).trans ąE
 have z1:ü<=û5:=by
  obtain⟨_,g⟩:∃o,Ą0 ü=Ă:=(_,by rw[e1];exact get?_update_seq (ùh) λx=>x++øH)
  exact ăv (ŉ g)
 rw[<-e1];refine wpAny_bind (wpAny_newList ?_ ĵp);have gl:łp û5=some İJ:=ùh;have k2:∀b o,Ŵ->łp b=Ă:=λb o e=>Ł _ (k1 b o e);have kk:∀v∈vs,pq p (Ču) v=pq p ù v:=λv mv=>by ext nl;rw[pz tk,pz (įK)]
 refine wpAny_bind (wpAny_holding (wpAny_call_entry_kw slot_list_sort (_,gl,rfl) entry_list_sort (H_ (show ýk+1+1<cLine by ext c) gl (λv mv=>(t v mv).imp λk tk=>įK) (by show(Ċ1 (pq p (Ču))).Nodup;rw[ùP kk];exact nd) hz λzs y1 y2=>ĈP) (args_list_sort_rev _ _)));obtain⟨c,gc⟩:∃c,(sortedHeap (Ču) û5 vs ăP).get? û5=Į5:=
  (_,by unfold sortedHeap;exact get?_update_seq (Ł _ (Ł _ (get?_update_seq gl đj))) λ_=>ăP)
 have y3:Ęc:=by rw[<-ùP λv mv=>kk v (ďX mv)];exact y2
 refine wpAny_pure (_,rfl,h _ û5 c zs (ĝ8) ‹_› y1 y3 gc);have e1:=k1 b o e;have ne:û5 ≠b:=ûd (ŉ e1);exact č' (Ł _ (Ł _ (č' (Ł _ e1))))
open e
open e _F
namespace _A
open PySem.Spec PyProof.Rows
def LC[94](H:Hp)(v:V)(k:Vb):Prop:=(if āI then ∃a b e c,k=e++[c]/\úT/\H a=some (.tup [øM,.int c])/\Ĭ2 else ∃a,úT/\H a=some (.tup (þd āY)))
def KyC[94][96][183]:Prop:=(∀k∈ks,ÿt=m/\ČX<=m)
section
variable[60]
def DP{s:Vh}[0]{b:Vi}{e:Vb}(h:Ĭ2)[365]:_F.fQ ù þb e:=by
 ext b;let⟨_,aE,rv,o,g1,g2,n,g3⟩:=(I.bE _ _ h)
 ext a;exact(ne,b,o,ĺ,n,rfl,g1,g2,g3,ph rv)
def acD[151]{s:Vh}[0][137]{k:Vb}(h:Đ1)(hr:øn)(hl:ÿt=m)(hm:ČX<=m):ĲL:=by
 cases p with
 |true=>
  ext b;ext kb;cases hr;rw[Ī]at hm;rw[Ď]at hl;have le:ùw+1=m:=hl;let⟨_,aE,rv,o,g1,g2,n,g3⟩:=(I.bE _ _ ha)
  ext a;cases rv with
  |cons r1 rv=>
   cases rv with
   |cons r2 rv=>
    ext b;cases rv;ext av;ext oc;ext a;exact(e,c,øM,t,a,o,n,rfl,ø,rfl,g1,g2,g3,DP I hb (λz=>by rw[z,ĳ]at le;ext c))
 |false=>
  ext b;ext ny;cases hr;rw[ņ]at hm;ext a;exact DP I ha (λz=>by rw[z,ĳ]at hl;ext c)
def Bw[39]:Dx X Ět ["reverse"] (λxs zs H Q=>∃(m:Nat)(a:Vi)(vs:ķ)(ks:øs),ÿO/\zs=[Ż]/\ě5/\čD/\ān/\KyC p m ks /\
  ∀(l:Vi)(ws:ķ)(outs:øs),ĒR->outs.Perm ks->øB outs->Paired ğW ws outs->Q ąF (upd H l Ğx)):=by
 ext jD;ext b;let⟨m,a,vs,ks,rfl,rfl,ha,pk,nd,hc,q⟩:=h;ext hW;cases r2;let⟨aE,r,p1,hz⟩:=ù8 ha;have lz:=úb;have key:∀[17]{ks:øs}{aE:Vc},čD->ĉG->KyC p m ks->aE.map Ě1=ks/\∀u∈aE,∃v k,øn/\Đ1/\ĲL:=by
  intro vs ks aE pk
  induction pk generalizing aE with
  |nil=>intro r _;cases r;exact(rfl,đn)
  | @cons v k vs ks a _ ih=>
   intro r hc;cases r with
   | @cons _ u _ aE ru rr=>
    let⟨i1,i2⟩:=ih rr λk mk=>hc k łn;have kd:=acD I a ru ŁK.1 ŁK.2;refine(by rw[Ą,i1,_F.pz kd],đo);rcases ŏ mw with rfl|mw
    .exact(v,k,ru,a,kd)
    .exact i2 w mw
 let⟨ek,al⟩:=key pk r hc;ext a;refine _F.zt hu đ5 (λv mv=>by let⟨_,k,_,_,kd⟩:=al v mv;exact(k,kd)) (by rw[ek];exact nd) ø λh' l c zs kp hl z1 z2 g=>?_;ext b;have mk:∀{zs:Vc},(∀u∈zs,u∈aE)->∃ws,ba ws zs/\Paired ğW ws (ē3 Ě1):=by
  intro zs
  induction zs with
  |nil=>intro _;exact Ĺi
  |cons z zs ih=>
   intro hm;let⟨ws,v1,v2⟩:=ih λy my=>hm y ło;let⟨v,k,e1,e2,e3⟩:=al z (hm z ċ);refine(v::ws,Ċ e1 v1,?_);rw[Ą,_F.pz e3];exact Ċ e2 v2
 let⟨ws,v1,v2⟩:=mk λu mu=>z1.mem_iff.mp mu;ext a;have op:(ē3 Ě1).Perm ks:=by rw[<-ek];exact z1.map _
 have l3:ûi<=sizeLine:=by have e1:=v1.length;have e2:=z1.length_eq;ext c
 exact(ûA,_,úQ kp hl (show cf Đ X.w _ h' _ Ğx from(l3,_,c,v1,g)),rfl,q l ws _ (ĈT hl) op z2 v2)
open e
open e _A
namespace _D
open PySem.Spec _A
open PyProof.Rows hiding St kindOf
def Cy[94](k:Vb):au:=(if āI then .tup [jv k.dropLast,.int (ŃA)]else jv k)
def kyO[94](v:au):ăS:=(if āI then(match v with
 |.tup [Ŷ,.int c]=>Ņb (· ++ [c])
 |_=>none) else(match v with
 |Ŷ=>ûL
 |_=>none))
def Bx[94]:ý->łV
 |[]=>ûC
 |v::r=>match kyO p v,Bx p r with
  |Ō,ġ=>ņD
  |_,_=>none
def LD[94](v:au)[2]:ú0:=(match v with
 |Ġ=>match ſ with
  |đ=>match ģo with
   |ÿA=>if ān/\(∀k∈ks,ÿt=Ć5/\ČX<=Ć5)then Ĩ2 else .bad
   |none=>.bad
  |_=>.bad
 |_=>.bad)
def ve[94](m:ME):ME:=(λZ st=>ø4 (LD p))
def aal[60]{k:Vb}(h:k≠[]):kyO p (Cy p k)=ō:=by
 cases p with
 |true=>
  show(d? (k.dropLast.map Ė)).map (· ++ [ŃA])=_;rw[fR];rw[ėB,List.getLast?_eq_some_getLast h];show some (k.dropLast++[k.getLast h])=_;rw[List.dropLast_concat_getLast]
 |false=>exact fR k
theorem Fg[60]:∀{ks:øs},(ĺZ)->Bx p ę8=ÿA
 |[],_=>rfl
 |k::ks,h=>by rw[Ą];unfold Bx;rw[aal (h k ċ),Fg λk m=>h k ŕ]
def Fh[60][178][8](h1:ſ=some ę8)(h2:ān)(h3:∀k∈ks,ÿt=m)(hm:ČX<=m):
  LD p Ħ st=Ĩ2:=by
 have ne:ĺZ:=λk mk z=>by have:=h3 k mk;ext gm;cases p<;>simp at hm<;>(ext aw)
 unfold LD;ext d;rw[h1];ext d;rw[Fg ne];ext d;rw[if_pos (h2,λk mk=>by
  have hd:Ć5=m:=by
   cases ks with
   |nil=>cases mk
   |cons a _=>exact h3 a ċ
  rw[hd];exact(h3 k mk,hm))]
def aam[60]{v:V}{k:Vb}(h:kyO p u=ō)(r:Rl āi O H u v):Đ1:=by
 unfold kyO at h;unfold LC;cases p with
 |true=>
  rw[Ī]at h⊢;ext f
  .rename_i us c;cases z:ûL with
   |none=>ext v
   |some e=>
    ext b;ext v;let⟨a,vs,rfl,ha,rv⟩:=r.AW;ext hY;rw[rv.dN]at ha;rw[q2.bK]at ha;rw[fC z]at q1;let⟨b,ws,rfl,hb,rw2⟩:=q1.AW;ext ga;ext a;exact(a,b,e,c,rfl,rfl,ha,hb)
  ext aj
 |false=>
  rw[ņ]at h⊢;ext f
  .rename_i us;ext b;rw[fC h]at r;let⟨b,ws,rfl,hb,rw2⟩:=r.AW;ext ga;ext a;exact ĝp
  ext aj
theorem Fi[60]{O:Ve}{H:Hp}:∀[6][17]{ks:øs},ģo=ÿA->aZ āi O H us vs->čD
 |[],vs,ks,h,r=>by ext e;rw[r.dN];ext am
 |ı,vs,ks,h,r=>by
  let⟨v,ws,rfl,q1,q2⟩:=r.bA;unfold Bx at h;cases z1:kyO p u with
  |none=>rw[z1]at h;ext e
  |some a=>
   cases z2:ģo with
   |none=>ext bs;ext e
   |some b=>
    ext bs;ext e;exact Ċ (aam z1 q1) (Fi z2 q2)
def aan[60]{v:V}{k:Vb}(h:Đ1):Rl āi O H (Cy p k) v:=by
 unfold Cy;cases p with
 |true=>
  ext kb;rw[ĳH,ėB,ĳJ];exact ûM ha (Ź (ûM hb ľ1) (Ź (Ā8 c) ùH))
 |false=>
  ext ny;exact ûM ha ľ1
def PZ[60][17](h:čD):aZ āi O H ę8 vs:=by
 induction h with
 |nil=>exact ùH
 |cons a _ ih=>exact Ź (aan a) ih
def By[1][4]{p cp:Pos}{md:ME}[39][86](hv:þh=some Ět)(ha:PE X e Ĝm)[65](jY:Ăo)[405]:PE X (Ű đy [e] [(some "reverse",ćS āT j cp,kp)] pos) (tE X E (ve b md)):=by
 refine İ (xP (Bw (p:=b) hu) hg hm hv Ļj (Et QU Jk) ù4 hn jY ĎW ĎW ù4 ù4) ?_;ext p;ext b;ext k;ext a;refine go Z O st rs sr h λd aK bv H1 v e1 bG r1 h1=>?_;cases d with
 |loc n=>
  ext b;ext t;unfold LD at h1;ext bq;ext a;cases z:ar aK n with
  |none=>ext aU;ext s
  |some us=>
   ext aU;ext bq;cases z2:Bx b us with
   |none=>rw[z2]at h1;ext s
   |some ks=>
    rw[z2]at h1;ext bq;by_cases hz:ān/\(∀k∈ks,ÿt=Ć5/\(if øR then 2 else 1)<=Ć5)
    .ext b;rw[ă0]at h1;let⟨vs,h3,rv⟩:=a_ bG z ha;ext a;refine(_,a,vs,ks,rfl,rfl,h3,Fi z2 rv,hz.1,hz.2,λl ws outs hl op fo pv=>?_);ext b;have eo:outs=ąK:=Bm (op.trans (eO ks).symm) fo (qv hz.1);rw[eo]at pv;let⟨k1,k2,k3⟩:=hJ bG (PZ pv) hl;ext a;exact h1 _ _ _ k1 k2 k3
    ext dc
 |_=>ext s
def leT[284][2]:ú0:=(match ûL,d? ws with
 |Ō,ġ=>if ĽV then įj else .bad
 |_,_=>.bad)
def leX:F2
 |ĝ,ø7,st=>.ok (.bl (ě2)) st
 |Ŷ,ĉZ,st=>ŃE
 |_,_,_=>.bad
def aao{a b:Vb}[8](ha:a≠[])(hb:b≠[]):leX (.tup Đr) (.tup (b.map Ė)) st=įj:=by show leT _ _ _=_;unfold leT;rw[fR,fR];exact if_pos (ha,hb)
def aap(hu:ĠF<cLine):dE X ęz (λx y H Q=>∃a b xs ys,øo/\Ăa/\Ĥb/\ys≠[]/\mM X.K H a Ņd/\mM X.K H b (ys.map āY)/\Q (.bl (!(Ň ys xs))) H):=by ext F;ext b;let⟨a,b,xs,ys,rfl,rfl,n1,n2,ha,hb,q⟩:=h;ext ed;let⟨o,ho,hc,n,hd⟩:=id p1;let⟨o2,oG,tD,m,hd2⟩:=id p2;ext a;exact _F.aaj hu (n1,a,o,ĺ,n,rfl,ho,hc,hd,ph r1) (n2,b,o2,ă8,m,rfl,oG,tD,hd2,ph r2) ķ3
def LF[39]:dE X ęz (rM ā E leX):=by
 refine ùf (ÿ2 abl (aap ø)) ?_;ext H;ext b;ext G;ext a;cases u with
 |int i=>
  cases w with
  |int j=>exact .inl (i,j,ùK,ùL,ù3)
  |_=>ext u
 |tup us=>
  cases w with
  |tup ws=>
   replace h:wR ā E (Rl āi) O H Q (ŃE):=h;unfold leT at h;cases z1:ûL with
   |none=>rw[z1]at h;ext u
   |some a=>
    cases z2:d? ws with
    |none=>ext bs;ext u
    |some b=>
     ext bs;ext I;by_cases hz:ĽV
     .ext b;rw[ă0]at h;rw[fC z1]at r1;rw[fC z2]at r2;ext kG;let⟨p2,vs2,rfl,hp2,rp2⟩:=ą3;rw[ąY rp]at hp;rw[ąY rp2]at hp2;ext a;exact .inr (p,p2,a,b,rfl,rfl,hz.1,hz.2,hp,hp2,ù3)
     ext nJ
  |_=>ext u
 |_=>ext u
open e _D
namespace _A
open PySem.Spec PyProof.Rows
def DQ:aW X ĀG (λxs H Q=>∃a aA,ÿO/\ă5/\∀p,ø9->Q øA ĻB):=by ext ap;ext b;ext lN;ext kh;ext a;exact JF I ha λp s' hp I'=>(úI,_,I',rfl,q p hp)
def DR[26]:aW X ąC (λxs H Q=>∃d aA,xs=ċw/\H d=þy/\∀l vs,ĒR->ħR->Q ąF (upd H l đr)):=by
 ext ap;ext b;let⟨d,aA,rfl,hd,q⟩:=h;ext kh;let⟨hz,lo,xs,pr,o,es,ep,h1,h2,h3,h4,h5⟩:=(I.bE d _ hd)
 have key:∀[185]{xs:ći},Ğ7->∃vs,ba vs (Ęx)/\ħR:=by
  intro aA xs pr
  induction pr with
  |nil=>exact Ĺi
  | @cons p x ps ys a _ ih=>
   let⟨vs,i1,i2⟩:=ih;exact(.ref x.2.1::vs,Ċ rfl i1,Ċ (x.2.1,rfl,a.2.1) i2)
 let⟨vs,v1,v2⟩:=key pr;ext a;have ev:ıT=Ęx:=by rw[h4,ğ];rfl
 have lv:øl=ø2:=by have:=congrArg ýs h4;rw[Ĩ,č]at this;have:=ăA pr;ext c
 refine W.kdl_call (_F.Pa lo) hh ĹE ø λh' tk acc c kp g al=>?_;have ea:ğd=Ęx:=by rw[_F.Pb al,ev]
 have l3:Ă':=by have:=ăA v2;ext gv;ext c
 refine(ùr,_,úQ kp ě (show cf Đ X.w _ h' _ đr from(l3,ğd,c,by rw[ea];exact v1,by rw[Array.toArray_toList];exact g)),rfl,q _ vs āz v2)
open e _A
namespace _D
open PySem.Spec _A
open PyProof.Rows hiding St kindOf
def H!:FN
 |øg,st=>match ēO with
  |āt=>.ok øq (st++[ąg])
  |none=>.bad
 |_,_=>.bad
def H?:FN
 |øg,st=>match Š with
  |þy=>.ok øq (st++[.lst (þW λp=>.tup ļ0)])
  |_=>.bad
 |_,_=>.bad
theorem zu{K:Va}{O:Ve}{H:Hp}:∀(k:ŭ),aZ K O H (þd jw) (þd kV)
 |[]=>ùH
 |üJ::k=>Ź (Ā8 i) (zu k)
 |ý4::k=>Ź (Ąo x) (zu k)
def DS:aW X ĀG (cM ā E H!):=by
 refine ùe DQ ?_;ext S;ext b;ext P;unfold H! at h;ext a;ext f
 .ext ag;ext b;ext z;ext t;ext a;ext f
  .ext dM;ext eQ;refine(a,cg,rfl,h1,øL);have s:=b7 (o:=.dK cg) hp;let⟨k1,k2,k3⟩:=oY sr hp (c:=ąg) (_,bg,h2.mono ĞR);ext ay
  ext h
 ext h
def DT[26]:aW X ąC (cM ā E H?):=by
 refine ùe (DR hh) ?_;ext S;ext b;ext P;unfold H? at h;ext a;ext f
 .ext ag;ext b;ext z;ext t;ext a;ext f
  .ext dM;let⟨cg,h1,h2⟩:=ûy n _ a e ha;refine(a,cg,rfl,h1,λp vs hp hv=>?_);have rl:aZ āi O H Ņl vs:=by
    have e2:Ņl=(ği).map λk=>ý7 (þd jw):=by rw[<-h2.1,ğ];rfl
    rw[e2];clear e2;generalize ği=ks at hv
    induction hv with
    |nil=>exact ùH
    |cons a _ ih=>
     let⟨b,rfl,hb⟩:=a;exact Ź (ûM hb (zu _)) ih
   let⟨k1,k2,k3⟩:=hJ sr rl hp;ext ay
  ext h
 ext h
open e _D
namespace _E
open PySem.Spec _A _D
open PyProof.Rows hiding St
def cL:FN:=(fL 3 6 (aB (aN 3 Ĺn) (aB (fj (yX øG) Ĺx (Ħv)) (bb ĉp))))
def cQ:FN:=(fL 2 6 (aB (aN 2 Dk) (aB (fj üz ød (Īy)) (aB ĝh (aB (fj (dy (ve false (ax H? øG))) ýU (dP (bx (ao gC (Ęa) bp)) (bH (fM bD gf (ag (cH (ag fI (ag (Ęa) aw))) aw))) aT)) ēk)))))
def bU:FN:=(fL 2 6 (aB ĝg (aB (fj Ą9 ød (fj üz ý0 (aB (aN 5 (ax n_ (ag (b9 1 [3,4] ĪY ĩ aU (ĪR)) aw))) ĥI))) ĄT)))
def d0:FN:=(fL 2 3 (aB (fj ęx Ą8 (ħE)) āh))
def bj:FN:=(fL 2 2 (bb (ve true (b9 2 [0] (lK bo) þG aU (ħb)))))
def jL:FN:=(fL 4 6 (aB (aN 4 (ax kI ýd)) (aB (fj (bZ čT) ýU (ĥ6)) (bb (ax ÿ1 (ag aM ĝk))))))
def cz:FN:=(fL 2 3 (aB (dP (fJ (ck (bx (C? "tuple" aM))) (bx (ao gC čU bo))) ť aT) (aB (fj Ą9 Ą8 (ĦS)) āh)))
def c9:FN:=(fL 3 4 (aB (aN 3 (ao cw (ax üP Ĝf) (ao cA (ao aQ bB JY) cG))) (bb (ax ÿ1 (ag ćj (ag (b9 1 [1,0,2] (bZ ýd) ĩ aU (Ħu)) aw))))))
def cm:FN:=(fL 4 7 (aB ĝh (aB (fj (uO true true Ĝg) ĵ6 (Ĥ3)) ēk)))
def dj:FN:=(fL 3 5 (aB (dP Įx ť aT) (aB (fj ęx ød (ĤC)) āh)))
def fS:FN:=(fL 4 5 (aB (dP (fJ Įx (bx (ao gC čU bX))) ť aT) (aB (fj Ą9 ý0 (ħF)) āh)))
open e _E
namespace _F
open PySem.W PyProof.Rows
section
variable[18]
def LG[15](a:Vi)[33](e:Vb):Prop:=(∃x t o k,ýJ/\ýu /\ úK=.seq #[ĉx,x] k/\fQ h x e)
def P0{b:Vi}[358]{P:ěn}[164][433](h:P (ûK (.ret ĬY)) s):
  ĦT:=by
 ext b;let⟨x,t,oa,k,ha,hca,U1,hx⟩:=h1;let⟨y,u,ob,k2,hb,U2,jY,hy⟩:=h2;ext a;show Ĩc;ext cq;replace h:P (ûK (.ret (øk (if m=n then lexLt f e else decide (m<n))))) s:=h;refine wpAny_bind (ľe);by_cases z:n=m
 .ext A;rw[Ī]at h;ext bT;ext aA;refine wpAny_bind (wpAny_bind (LA hu hx hy hl prog w _ _ ?_));by_cases q:e=f
  .rw[ĺH];ext aA;refine wpAny_pure üI;rw[q,d6]at h;ext j
  .rw[ĸC];ext aO;obtain⟨b1,rfl⟩:∃b,x=øM:=ĩf
   obtain⟨b2,rfl⟩:∃b,Ăa:=ĩg
   refine wpAny_bind (Po hu hx hy ?_);ext jY
 .rw[if_neg λy=>z ąc]at h;rw[ú2 z];ext aO;ext kS;ext jY
def acE{b:Vi}[358](hu:Ĝ3)[433](h:Q ĬY s):
  Ĩh:=by
 ext b;let⟨x,t,o,k,ho,hc,hd,hx⟩:=id h1;let⟨y,u,o2,k2,oG,tD,hd2,hy⟩:=id h2;ext a;refine wpAny_richCompare_same_room ül ĐT čE ?_ ø;refine wpAny_call_entry čE ül ıI (P0 (show ĈM by ext c) h1 h2 hl ?_) ī2;ext cQ
open e
open e _F
namespace _D
open PySem.Spec _A
open PyProof.Rows hiding St kindOf
def rkV:au->ăS
 |.tup [ýL,Ŷ]=>Ņb ńM
 |_=>none
def Rx:F2:=(λu w st=>match rkV u,rkV w with
 |Ō,ġ=>if Ē1=b.length/\2<=Ē1 then .ok (.bl ń_) st else .bad
 |_,_=>.bad)
def aaq[358][8](hl:ùT)[365]:Rx (.tup [ýL,.tup (e.map Ė)]) (.tup [.int m,.tup (f.map Ė)]) st=.ok (.bl (Ň (m::f) (n::e))) st:=by unfold Rx rkV;ext d;rw[fR,fR];exact if_pos (by rw[ă,ă,hl],by rw[ă];have:=İU ne;ext c)
def LH[107]{s:Vh}[0]{x:V}{v:Vg}{a:Vb}(h:rkV u=Ō)(r:Rl āi O H u x)(q:úh)(hl:2<=Ē1):∃p n e,v=úI/\a=n::e/\_F.LG ù p n e:=by
 unfold rkV at h;ext f
 .rename_i n us;cases z:ûL with
  |none=>ext v
  |some e=>
   ext b;ext v;rw[fC z]at r;let⟨p,vs,rfl,hp,rv⟩:=r.AW;ext hY;rw[rv.dN,q1.bK]at hp;let⟨b,ws,rfl,hb,rw2⟩:=q2.AW;ext ga;ext M;let⟨_,aE,T3,o,g1,g2,k,g3⟩:=(I.bE _ _ hp)
   ext a;cases T3 with
   |cons c1 T3=>
    cases T3 with
    |cons c2 T3=>
     ext b;cases T3;let⟨t,rfl⟩:=c1;cases c2;ext a;exact(p,n,e,rfl,rfl,øM,t,o,k,g1,g2,g3,DP I hb (λy=>by rw[y]at hl;simp at hl))
 ext aj
def LJ[39]:dE X ę4 (rM ā E Rx):=by
 ext F;ext b;let⟨O,st,a,b,sr,r1,r2,h⟩:=h;unfold Rx at h;ext a;cases z1:rkV a with
 |none=>rw[z1]at h;ext u
 |some k=>
  cases z2:rkV b with
  |none=>ext bs;ext u
  |some l=>
   ext bs;ext I;by_cases hz:ÿt=Ÿ/\2<=ÿt
   .ext b;rw[ă0]at h;let⟨p,n,e,rfl,rfl,k1⟩:=LH I z1 r1 rx hz.2;let⟨p2,m,f,rfl,rfl,k2⟩:=LH I z2 r2 ry ø;ext a;exact show wpAny _ _ (richCompare .Gt øA (.ref p2)) _ _ _ from _F.acE hu k1 k2 (by have:=hz.1;rw[ă,ă]at this;ext c) (úU,H,I,rfl,ù3)
   ext nJ
def LK[39]:dE X ę5 (rM ā E Łr):=by
 ext F;ext b;let⟨O,st,k,d,sr,r1,r2,h⟩:=h;unfold Hr at h;ext a;ext f
 .rename_i ov hl;ext b;let⟨a,o',rfl,hd,_,hv⟩:=qp sr r2 r1 hl;ext aX;ext a;refine ad_ ø I hd rx λs' I'=>(.bl o'.isSome,H,I',rfl,?_)
  have:o'.isSome=ov.isSome:=by rcases hv with⟨rfl,rfl⟩|⟨u,v,rfl,rfl,_⟩<;>rfl
  ext aK;ext bG
 ext h
open e _D
namespace _E
open PySem.Spec _A _D
open PyProof.Rows hiding St
def c6:FN:=(fL 5 9 (fj (dy bB) ĵ6 (ĤM)))
def eQ:FN:=(fL 2 2 (aB (dP (bx (ao jc aM ĝv)) (bb (cH (ag Ĝi ùq))) aT) (bb (cH (ag bp ùq)))))
def lU:FN:=(fL 1 1 (bb (cH (ag þH (ag ć5 (ag Ďp (ag (ao aQ (bL (ag qc8 (ag JY ĝl))) Ĺl) (ag (ao aQ (bL (ag qc8 (ag Ě6 ĝi))) Ĺl) ø6))))))))
def fT:FN:=(fL 1 4 (aB (aN 1 (b9 1 [] Ą9 ĩ aU Ĭs)) (aB (fj ęx Ą8 (fj Ĩo ød (ĤX))) āh)))
def fU:FN:=(fL 5 9 (j_ (bx (ao uI (ax u_ øG) bp)) (ĤD)))
def eU:FN:=(fL 2 4 (aB (aN 2 ýe) (aB (fj üz ød (ĥl)) ĄT)))
def pA:FN:=(fL 2 8 (aB (ĪP) (aB (ĤG) (aB (aN 3 (ax n_ (ag (b9 1 [1] ęy ĩ aU (ĩF)) aw))) (aB ĝh (aB (fj (bZ ĝi) ýU (Ĥz)) ēk))))))
def dC:FN:=(fL 5 8 (aB (aN 5 (ax H! øG)) (aB (aN 6 qq) (aB (j_ (ĖJ) (ĤR)) (bb jS)))))
def d8:FN:=(fL 3 3 (bb (ao Rx (ax ā3 (ag aM (ag (ao aQ (ax Ăf Ĝf) bp) aw))) (ax ā3 (ag aM (ag (ao aQ (ax Ăf (ag aM øG)) bp) aw))))))
def fE:FN:=(fL 4 7 (aB (dP (fJ (ck (bx (C? "tuple" bX))) (fJ (bx (ao gC ľ9 i!)) (ck (bx (ax ċB (ag ăn (ag þH (ag Ďp aw)))))))) ť aT) (aB (dP (ck (bx (ax _E.fS (ag ü7 (ag þH (ag Ďp čT)))))) ť aT) (aB (dP (bx (ao gC (ax _E.jL (ag þH (ag ü7 (ag bB (ag ăn aw))))) bo)) ť aT) (aB (fj (bZ čT) ý0 (ĤA)) āh)))))
def eV:FN:=(fL 4 8 (aB (aN 4 (ax _E.gK (ag bo (ag (ao cA (bL øG) bX) aw)))) (aB (aN 5 (b9 1 [4,0] ĉR ĩ aU (ĥX))) (aB (aN 6 (b9 1 [] ĉR ĩ aU qq)) (aB (aN 7 (ax _E.dC (ag aM (ag (dZ ûT "guards" gf) (ag (gX "Packing" "terms_of" _E.cK gf øG) ĳi))))) (bb (cH (ag (ax _E.cm (ag aM (ag gf ĳi))) (ag (gX "Packing" "sum_of_terms" ċA gf ŁG) aw)))))))))
def bC:FN:=(fL 4 4 (aB (bH (ax ċC øp)) (aB (bH (ax ċD ùq)) (aB (bH (ax ąR ýd)) (bb (ax _E.eV Ė4))))))
open e _E
namespace _I
open PySem.Spec _A _D
open PyProof.Rows hiding St kindOf
def pB[28][2]:ąV ċu st=þT:=rfl
def FP:Vb:=(Ĭz)
def nM[33]:Bool:=(ěQ || (ě1&&ĚC&&FP.all λp => ! Ļq))
def any_ints[33][53]:(Ą3).any (λy=>TZ y ÿS)=ŀq:=by
 induction ns with
 |nil=>rfl
 |cons m ns ih=>
  simp only[Ą,ýp,List.contains_cons];congr 1;show(m==n)=(n==m);rw[ćc,beq_iff_eq,beq_iff_eq];exact(Eq.symm,Eq.symm)
def P_[33][53][2]:Q! false ÿS (.mt üW) st=.ok (.bl (ŀq)) st:=by
 have h1:(Ą3).all flat=true:=by rw[ĜD];exact List.all_eq_true.mpr ú5
 unfold Q! Q_;ext d;rw[if_pos (rfl,h1),any_ints];rfl
def P![53](f:Ġp):nI ((Ą3).map λv=>match v with|ĝ=>.bl (f i)|_=>.cq)=some (ýF f):=by
 induction ns with
 |nil=>rfl
 |cons m ns ih=>
  simp only[Ą,nI]at ih⊢;ext cj
def ng[33][2]:∃g,ā2 [ýL] st=.ok ļL ùz:=by
 have Tg:Q! false ÿS _E.fN st=.ok (.bl (ěQ)) st:=P_ n FP st;cases h1:ěQ with
 |true=>
  ext gF;simp![ā2,Ą,Ĺ,ø1,ă,ĳ,Tg,ń,nM,h1,Ĝz]
 |false=>
  rw[h1]at Tg;by_cases h2:n<2
  .ext gF;have e2:Ńp=true:=decide_eq_true h2;have e3:ě1=false:=ùo;simp![ā2,yZ,Ą,Ĺ,ø1,ă,ĳ,Tg,e2,ń,nM,h1,e3,ć_,ďr]
  .have e2:Ńp=false:=decide_eq_false h2;have e3:ě1=true:=ü';by_cases h3:997<n
   .ext gF;have e4:ĽZ=true:=decide_eq_true h3;have e5:ĚC=false:=ùo;simp![ā2,Ą,Ĺ,ø1,ă,ĳ,Tg,e2,e4,ń,nM,h1,e3,e5,ć_,ďr,Ĉa]
   .have e4:ĽZ=false:=decide_eq_false h3;have e5:ĚC=true:=ü'
    let f:au->au:=λv=>match v with|ĝ=>.bl (ĚZ)|_=>.cq
    have hc:aY øf ĩ aU (ao gC ďD (mC (Ė 0))) (ĈS) (sH 1 [0] [some (Ė n)]) st []=.ok ([]++ĕu) st:=by
     refine kg trivial (λτ=>∃x,τ=[x,some ÿS]) (Ēe) f (ĈS) _ [] (none,rfl) ?_;rintro u hu τ ⟨x,rfl⟩;let⟨i,hi,rfl⟩:=Ĕ hu;have hi0:¬ i=0:=by intro z;ext A;revert hi;decide
     refine(_,rfl,ę,rfl,ď_);simp![þt,fP hi0,f]
    have hb:nI (ĕu)=some (FP.map λi => ĚZ):=by exact P! FP λi => ĚZ
    refine(ĲK,?_);have ha:C! [ġU] ńS=.ok ļL ńS:=by unfold C!;ext d;rw[br];simp only[nM,h1,e3,e5,ć_,Ĉa,ĜD];rfl
    have hw:E6 _E.fN st=.ok (ĈS,úq) st:=rfl;have hz:(ĈS).length=11:=rfl;simp![ā2,y!,tR,kl,Ą,Ĺ,ú',Ž,ø1,ă,ĳ,sizeLine_eq,Tg,e2,e4,hw,hc,ha,hz]
open e _I
namespace _J
def P?(u0 u1 g0 g1 M:Int):Prop:=(∃e x0 x1:Int,(e=1\/e = -1)/\0<=x0/\0<=x1/\u0=e*x0/\u1 = -(e*x1)/\x1*g0+x0*g1=M/\x0<=M+1/\x1<=M+1)
def vf{x g:Int}(hx:0<=x)(hg:1<=g):x<=x*g:=by have:=Ĭ3 hg hx;ext bY
def P?.step[409]:P? u1 ńV g1 ĞF M:=by
 ext b;ext je;have p2:0<=ģ':=by have:=ĽD hq p1;ext c
 have eq:(ģ')*g1+x1*ĞF=M:=by rw[<-hM];grind
 ext a;refine(-e,x1,ģ',?_,p1,p2,?_,?_,eq,b1,?_)
 .rcases he with rfl|rfl<;>simp
 .rw[r1];grind
 .rw[r0,r1];grind
 .have k1:=vf p2 h1;have k2:=ĽD p1 h2;ext c
def P?.bound{M:Int}(h:ĺd):u0.natAbs<=ļO/\u1.natAbs<=ļO:=by ext b;ext je;ext a;rcases he with rfl|rfl<;>(subst r0 r1;constructor<;>(ext aw))
def P?.acF[409]:q<=g0:=by have:=vf hq h1;ext c
structure aG(a b:Int)(g0 u0 v0 g1 u1 v1:Int):Prop where
 n0:0<=g0
 n1:0<=g1
 c0:u0*a+v0*b=g0
 c1:u1*a+v1*b=g1
 cu:P? u0 u1 g0 g1 Ĺp
 cv:P? v0 v1 g0 g1 Ĺj
 m0:g0<=ī3
 m1:g1<=ī3
 da:∃p q:Int,a=p*g0+q*g1
 db:∃p q:Int,b=p*g0+q*g1
def sgn[33]:Int:=(if n<0 then -1 else 1)
def vg[33]:Int:=(Ĳ1)
def mS[33]:vg n=(n.natAbs:Int):=by unfold vg;ext bo
def sgn_mul[33]:sgn n*n=vg n:=İ5
def Fj[33]:n=sgn n*vg n:=İ5
def LL[33]:sgn n=1\/sgn n = -1:=by unfold sgn;split<;>simp
def aG.start(a b:Int):aG a b (vg a) (sgn a) 0 (vg b) 0 (sgn b):=by
 refine(ĎQ,ĎQ,ĲP,ĲP,?_,?_,ĎQ,ĎQ,(sgn a,0,?_),(0,sgn b,?_))
 .refine(sgn a,1,0,LL a,øi,øi,Ń,Ń,by rw[mS b];ext c,ø,ø)
 .refine(-(sgn b),0,1,?_,øi,øi,Ń,Ń,by rw[mS a];ext c,ø,ø);rcases LL b with h|h<;>simp[h]
 .have:=Fj a;ext c
 .have:=Fj b;ext c
def aG.turn[138](h:aG a b g0 u0 v0 g1 u1 v1)(h1:g1≠0):aG a b g1 u1 v1 (ăw) Ğk Ğl/\ız/\0<=ú4/\ú4<=g0:=by
 have p1:1<=g1:=by have:=h.n1;ext c
 have ef:ú4=g0 / g1:=ĮI g0 ø;have em:ăw=g0 % g1:=by have:=ĲB g0 g1;rw[ef,ûc];ext c
 have q0:0<=ú4:=by rw[ef];exact Int.ediv_nonneg h.n0 ø
 have r0:0<=ăw:=by rw[em];exact ăj _ h1
 have r1:ăw<g1:=by rw[em];exact Ă7 _ ø
 generalize hq:ú4=q at *;ext b;have m1:=h.m1;let⟨p,r,ea⟩:=h.da;let⟨p',r',eb⟩:=h.db;ext a;refine((h.n1,r0,h.c1,?_,h.cu.step q0 p1 r0,h.cv.step q0 p1 r0,h.m1,ø,(p*q+r,p,?_),(p'*q+r',p',?_)),ø,q0,h.cu.acF q0 p1 r0)
 .have e0:=h.c0;have e1:=h.c1
  grind
 .grind
 .grind
open e _J
namespace _I
open PySem.Spec _A _D
open PyProof.Rows hiding St kindOf
def nN[33]:Bool:=(n==0 || nM n)
def jh[33][2]:∃g,ÿZ [ýL] st=.ok (.bl (nN n)) ùz:=by
 cases h:n==0 with
 |true=>exact([],by simp![ÿZ,Uu,Ą,Ĺ,ø1,ă,ĳ,pB,h,nN,Ĝz,ń])
 |false=>
  let⟨g,e⟩:=ng n st;exact(g,by simp![ÿZ,Uv,Ą,Ĺ,ú',Ž,ø1,ă,ĳ,pB,h,nN,ć_,e])
def wB[117](h:nN n=true)[2]:∃g,_E.iQ [ýL] st=Ņs:=by let⟨g,e⟩:=jh n st;rw[h]at e;exact(g,by simp![_E.iQ,Ą,Ĺ,ú',Ž,ø1,ă,ĳ,ć',e])
def wC[33][2]:ąU [ýL] st=.ok (.int (Ĕr n)) st:=by
 unfold Ĕr;by_cases h:n<0
 .have e:Ńo=true:=ĺG;simp![ąU,EZ,KO,KP,Ą,Ĺ,ú',Ž,ø1,ă,ĳ,e,ùE]
 .have e:Ńo=false:=Ďy;simp![ąU,E3,Ą,Ĺ,ú',Ž,ø1,ă,ĳ,e,üo]
def Cz(g u v:Int):au:=(.tup [.int g,.int u,.int v])
def bounds[138](h:ėe)[483]:sj 402 g0/\sj 402 u0/\sj 402 v0/\sj 402 g1/\sj 402 u1/\sj 402 v1:=by
 ext b;have e:ġn ^ 402=4*ģm:=Ĳ
 have a':a.natAbs<ģm:=ha;have b':b.natAbs<ģm:=hb;let⟨k1,k2⟩:=h.cu.bound;let⟨k3,k4⟩:=h.cv.bound;have m0:=h.m0;have m1:=h.m1;have n0:=h.n0;have n1:=h.n1;ext a;refine(?_,?_,?_,?_,?_,?_)<;>(show _<2 ^ 402;rw[e];ext c)
def msr(Z:ùA):Nat:=(match(Z[3]?:ĜF) with
 |some (some (ý7 (Ė g::_)))=>g.toNat
 |_=>0)
def Ry(q:Int)(v:au):au:=(match v with
 |ĳC=>łu
 |_=>.cq)
def zx{q x y:Int}:Ry q (ĳC)=łu:=rfl
def acG{q:Int}(hq:Sz q)(h1:Sz g1)(h2:Sz u1)(h3:Sz v1)[2](g:ør)[238][54][41]:
  aY g ăb aU (Ęb) ĦV ĜJ st []=.ok [.int ĞF,.int ńV,.int (v0-q*v1)] st:=by
 have:=kg (a:=Ľ1) (c:=aU) (e:=Ęb) hg (λτ=>∃x y,τ=ĜJ) (Ēe) (Ry q) ĦV ĜJ [] ńW ?_
 .ext n
 .rintro u hu τ ⟨x,y,rfl⟩;simp only[kY,ăz,Ĺ8,or_false]at hu;rcases hu with rfl|rfl|rfl
  .exact(_,rfl,đu,rfl,λ_=>by simp![þt,ćd,Du (hq,h1),zx])
  .exact(_,rfl,đu,rfl,λ_=>by simp![þt,ćd,Du (hq,h2),zx])
  .exact(_,rfl,đu,rfl,λ_=>by simp![þt,ćd,Du (hq,h3),zx])
def at0{x:au}{r:ý}:ÿU Ċu 0=ī:=by unfold ÿU QY;simp
def Ib[138][483][2]:∃gs g u v u1 v1,ĒD [Ċz,ąh] st=.ok (Cz g u v) (ąA)/\_J.aG a b g u v 0 u1 v1:=by
 ext b;let⟨bn,ay,e,gs,rfl,g0,u0,v0,g1,u1,v1,o,f,rfl,J,z⟩:=uV (t:=ĸo)
  (body:=ĤH)
  (λZ s=>∃gs,s=ąA/\∃g0 u0 v0 g1 u1 v1 o f,ĦG/\ėe)
  (λZ _=>msr Z)
  (λZ s=>∃gs,s=ąA/\∃g0 u0 v0 g1 u1 v1 o f,ĦG/\ėe/\g1=0)
  (by
   intro Z s aP;let⟨gs,rfl,g0,u0,v0,g1,u1,v1,o,f,rfl,J⟩:=aP;cases hz:g1==0 with
   |true=>
    have z:g1=0:=ęM
    refine .inl (ąA,?_,gs,rfl,g0,u0,v0,g1,u1,v1,o,f,rfl,J,z);simp![Cz,ć',qc at0,hz]
   |false=>
    have z:¬ g1=0:=ęM
    let⟨b1,b2,b3,b4,b5,b6⟩:=bounds J ha hb;let⟨J',lt,q0,q1⟩:=J.turn z;have hD:Dz g1:=Dz.of z b4 ø;have sq:Sz (ú4):=Sz.of (b1.le ø) ø;have s4:Sz g1:=Sz.of b4 ø;have s5:Sz u1:=Sz.of b5 ø;have s6:Sz v1:=Sz.of b6 ø;refine .inr (ąA,[qI a, qI b, ķj, ĩH, ĢH, ĩH],ąA++ĦQ,?_,.inl ?_,(gs++ĦQ,by rw[Į],g1,u1,v1,_,_,_,_,_,rfl,J'),?_)
    .simp![Cz,Bool.not_false,qc at0,hz]
    .have hzl:(kY [Ė g0,Ė u0,Ė v0] [Ė g1,Ė u1,Ė v1]).length=3:=rfl;have SN:sH 2 [4] [some (Ė a), some (Ė b), some (.tup įu), some (.tup įv), ĢH, f]=[qn, qn, ĢH]:=rfl;simp![Cz,y!,tR,KW,O4,þt,ćd,sizeLine_eq,qc at0,div_ii hD,SN,acG sq s4 s5 s6 _ (ļy) (trivial,trivial),hzl,E7 (br _ _)]
    .show ız;exact lt)
  [qI a, qI b, some (Cz (_J.vg a) (Ĕr a) 0), some (Cz (_J.vg b) 0 (Ĕr b)), qn, qn] st
  ([],by ext ad,_,_,_,_,_,_,_,_,rfl,_J.aG.start a b)
 ext A;ext a;refine(gs,g0,u0,v0,u1,v1,?_,J);have aew:∀n:Int,(Ĳ1)=_J.vg n:=λn=>rfl;simp only[Cz]at e;simp![ĒD,Cz,Rh,KN,aci,Ą,Ĺ,ú',Ž,ĂZ,ø1,þt,ćd,ă,ĳ,sizeLine_eq,wC,aew,e]
def Ic:∀k:Fin 998,nM (k.val:Int)=true->2<=k.val/\∀d:Fin 32,2<=d.val->d.val<k.val->k.val % d.val≠0:=Ĳ
def gw(h:ÿh):2<=p/\p<=997:=by
 unfold nM at h;rw[Bool.or_eq_true]at h;ext oG
 .exact(show ∀q∈FP,2<=q/\q<=997 by decide) p ĕh
 .simp only[úx,decide_eq_true_eq]at h;omega
def Ie(h:ÿh){d:Int}(h2:2<=d)(hd:d<p):¬ p % d=0:=by
 ext nB;have key:=(Ic (ĉ9,ø) (by show nM ((ĉ9:Nat):Int)=true;rw[ėO];ext j)).2;have small:∀e:Int,2<=e->e<=31->e<p->¬ p % e=0:=by
  intro e e2 e3 e4 z;have:=key (ĉ6,ø) (by show 2<=ĉ6;ext c) (by show ĉ6<ĉ9;ext c);apply this;show ĉ9 % ĉ6=0;have:((ĉ9 % ĉ6:Nat):Int)=0:=by rw[Int.natCast_emod,ėO,ėO];ext o
  ext c
 intro z;by_cases hs:d<=31
 .exact small d h2 hs hd z
 .let⟨m,hm⟩:=Int.dvd_of_emod_eq_zero z;have m2:2<=m:=by
   rcases ăF m 2 with q|q
   .have:d*m<=d*1:=Ĭ3 ø ø;ext c
   .ext m
  have m3:m<=31:=by
   rcases ăF 31 m with q|q
   .have:32*32<=d*m:=Int.mul_le_mul ø ø ø ø;ext c
   .ext m
  have m4:m<p:=ø
  exact small m m2 m3 m4 (by rw[hm];exact ĲC)
def pC[25][28]:Ĕx p=i % p:=ĮJ i ø
def xW[29](h0:0<=i)(h1:i<1000):sj 400 i:=sj.small ø ø h1
def LM(h:ÿh):nN p=true:=by unfold nN;rw[h,łB]
def at1[258]{r:ý}:ÿU (x::y::r) 1=ûE:=_A.g? rfl
def zA[117](h:ÿh)(hn:¬ ċL=0)[2]:∃g t,ĒA [øx,ýL] st=.ok (.int t) ùz/\0<t/\t<p/\(t*n) % p=1:=by
 ext b;ext nB;let⟨g1,e⟩:=wB (LM h) st;have hp:¬ p=0:=ø
 have e0:ļ1:=ĸw
 have e1:Ļq=false:=by rw[pC ø];simpa using hn
 have a0:=ăj n hp;have a1:=Ă7 n Ęk;let⟨g2,g,u,v,u1,v1,es,J⟩:=Ib (a:=ċL) (b:=p) (xW a0 ø) (xW ø ø) (st++g1);have hg:g=1:=by
  let⟨x,_,ex⟩:=J.da;let⟨y,_,ey⟩:=J.db;rw[þU,łG]at ex ey;have n0:=J.n0;rcases ăF g 2 with q|q
  .rcases ăF g 1 with q'|q'
   .have:g=0:=ø
    rw[this,þU]at ey;ext c
   .lia
  .have gl:g<=ċL:=by
    have xp:1<=x:=by
     rcases ăF x 1 with z|z
     .have:x*g<=0*g:=Ĭv ø ø;ext c
     .ext o
    have:1*g<=x*g:=Ĭv xp ø;ext c
   exact absurd (by rw[ey];exact ĲC) (Ie h q ø)
 subst hg;have t0:=ăj u hp;have t1:=Ă7 u Ęk;have tn:(u % p*n) % p=1:=by
  have c:=J.c0;have k1:(u*(ċL)) % p=1:=by
   have:u*(ċL)=1+p*(-v):=by rw[ĈF,ûc p v];ext c
   rw[this,ĮH];exact ņX
  rw[Ĉs,čM u ĎD];rw[Ĉs,čM n ĎD]at k1;exact k1
 ext a;refine(g1++g2,u % p,?_,?_,t1,tn)
 .simp only[Cz]at es;rw[<-pC ø]at es;simp![ĒA,KR,kj,Ą,Ĺ,ú',Ž,ø1,ă,ĳ,e,e0,fP hp,e1,es,qc at1,Į];rw[pC ø]
 .rcases ăF 0 (u % p)with q|q
  .ext m
  .have:u % p=0:=ø
   rw[this,ĜC]at tn;simp at tn
def P'{k:Int}(h0:0<=k)(h1:k<(ų:Int)):∃c:Int,ÿU üW k=some Ĝ8:=by
 have hk:úL<ų:=ø
 refine(ns[úL],?_);have e:=_A.g? (xs:=Ą3) (by rw[ĭ,ħ hk];rfl);rw[show((úL:Nat):Int)=k by ext c]at e;exact e
def gL{m:Int}(hm:0<m)[28]:0<=Ĕx m/\Ĕx m<m:=by rw[pC hm];exact(ăj _ ø,Ă7 _ hm)
def nO[28][2]:_E.gp ċu st=þT:=rfl
def acH[98](h:0<j)(h1:j<ŋ):Dz j:=by refine Dz.of (k:=64) ø ?_ ø;show Ģx<ŋ;ext c
def dvP[33](u:au):Bool:=(match u with
 |ąh=>decide (b<n)&&(ĔF b==0)
 |_=>false)
def xk[33]:ý:=((dh 2 30).filter (dvP n))
def aar[49]:¬ p=0:=by have:=gw hp;ext c
def iX[49][2]:∃g,ċC [øx] st=Ņs:=by
 let⟨g,e⟩:=jh p st;have hr:nN p=true:=by unfold nN;rw[hp,łB]
 rw[hr]at e;have hz:ļ1:=by simpa using aar hp
 exact(g,by simp![ċC,Ą,Ĺ,ú',Ž,ø1,ă,ĳ,ć',e,hz])
abbrev eZ:=List Int×Int
def tV(t:eZ):au:=(.tup [ĔB,Ă6])
def eD(t:eZ):ŭ ×au:=(%[iK t.1|Ă6])
def c5[289]:Int:=((ń8 ŗ).getD 0)
def jx[289][148]:ş:=(if Ņx then ÿ0 (λp=>ėh)else A++ċv)
def LN(a k:Vb):decide (iK a=iK k)=decide (a=k):=by
 by_cases h:a=k
 .rw[h,ĂQ,ĂQ]
 .rw[Ďy,decide_eq_false λe=>h (Lf e)]
theorem Fl(k:Vb):∀A:ş,j! ĈO Ĕe=ĖO
 |[]=>rfl
 |p::A=>by
  unfold j!;rw[Ą,ĆL,ĆL];show Option.map _ (match ĳZ with|true=>some (eD p)|false=>_)=_;rw[LN];cases Ńq with
  |true=>rfl
  |false=>exact Fl k A
theorem LO(k:Vb):∀A:ş,((ÿ0 eD).any λkv=>decide (kv.1=iK k))=A.any ċ6
 |[]=>rfl
 |p::A=>by rw[Ą,ýp,ýp,LO k A];show(ĳZ || _)=_;rw[LN]
def Qa[289][148]:m_ ĈO Ĕe (.int v)=ďj eD:=by
 unfold m_ jx;rw[LO];by_cases h:ĎC
 .rw[ùE,ùE,ğ,ğ];ext nC;show(if ņf then%[iK p.1|Ė v]else eD p)=eD (ėh);ext aS
  .rw[Ā9,if_pos ŁH];rfl
  .rw[ün,if_neg λz=>e (Lf z)]
 ext ns
def xX(k:Vb):qo ąd=some Ĕe:=by
 have h:∀k:Vb,keysOf (þd Ė)=some Ĕe:=by
  intro k
  induction k with
  |nil=>rfl
  |cons x k ih=>
   rw[Ą];unfold keysOf;ext cj
 exact h k
def Fm[8][76][114](h:st[d]?=ĕX)(k:Vb):kE st üj ąd=some (ĖO):=by unfold kE;ext d;rw[h];ext d;rw[xX,Ęp,Fl]
def Ig[8][76][114](h:st[d]?=ĕX)[485](k:Vb)[148]:k9 st üj ąd (.int v)=some (üF d (.dT (ďj eD))):=by unfold k9;ext d;rw[h];ext d;rw[if_pos (č5),xX,Ęp,Qa]
def Ih[289]:(ĖO).getD ùg=ĞZ:=by
 ext cn;cases ďI with
 |none=>rfl
 |some p=>rfl
def Ii[167][206]:ďj ď=if Ņx then ÿ0 ď else ü6++[k]:=by
 unfold jx;by_cases h:ĎC
 .rw[ùE,ùE,ğ];ext nC;show(ėh).1=p.1;ext dR
 ext ns
def Qb[167]:ĎC ↔ĉ8:=by
 rw[ĆR,Ğn];ext D
 .ext og;exact(p,hp,Ę_)
 .ext og;exact(p,hp,ė2)
def DU[114](h:Ēv)(k:Vb)[148]:(ďj ď).Nodup:=by
 rw[Ii];by_cases c:ĎC
 .rw[ām];ext j
 .rw[ĄI];refine čB (h,ĂA,?_);intro a ha b hb e;rw[ţ hb]at e;exact c (Qb.mpr (e▸ha))
def LP[167][206]:(Ģz).length<=đA+1:=by
 unfold jx;split
 ext gr
 .ext ak;ext K
def LQ[167][206]{t:eZ}(h:t∈Ģz):t∈A\/t=ĉd:=by
 unfold jx at h;ext f
 .ext mM;by_cases c:āZ
  .rw[ām]at e;exact .inr (by rw[<-e,c])
  .rw[ĄI]at e;exact .inl (by rw[<-e];exact hp)
 .ext np
  .exact đG
  .exact .inr (ţ h)
def LS[167](h:ĉ8):ġm ∈A:=by
 ext cn;cases z:ďI with
 |none=>
  ext lF;ext mM;exact ĵS
 |some p=>
  have e:=List.find?_some z;have m:=List.mem_of_find?_eq_some z;have e':āZ:=Ę_;rw[<-e'];exact m
def set_dict[2](a b:Ěv):(ŀB).set øu (.dT b)=st++[.dT b]:=K4 st _ _
def Qc[2](a:Ěv):(ŀB)[øu]?=some (.dT a):=đP
def told(A:ş):ş:=((ęi λk=>Đ7 !=0).map λk=>ġm)
def Qd[76][167](h:đ_)(hk:ĉ8):k_ üj ąd s=.ok (ĞZ) s:=by
 unfold k_;rw[Fm h k];ext cn;cases z:ďI with
 |none=>
  ext lF;let⟨p,hp,e⟩:=Ĕ hk;exact ĵS
 |some p=>rfl
def qA{g:ør}{a:AS}{e:ME}{y:au}[414](h2:e pi st=.ok y aK):aY g a aU e ċi τ st ys=aY g a aU e us pi aK đx:=by rw[aY];rw[û4,h1];dsimp only[aU];rw[h2]
def iA[333]{τ:ùA}[8]{ys:ý}[238]:aY g a c e [] τ st ys=.ok ys st:=by rw[aY,û4]
section
variable[85]{a b:ME}{f:F2}[258]{r:ú0}{t u:MT}{c:Bool}
def iY(h1:Ĥj)[334]:Ńi=f x y s2:=by show(ùI).bind _=_;rw[h1];show ę3=_;rw[h2]
def jy(h:ùI=ďq):bx a Z s=ĄB:=by rw[gQ,h];rfl
def Rz(h:t Z s=ĝE):ck t Z s=Ĝw:=by rw[mO,h];rfl
def RA(h:t Z s=Ĝw):dP t B aT Z s=.nx Z s1:=by rw[ju,h,bI,n?];rfl
def aas(h1:ùI=Ğ3)(h2:ąr=r):wg a b Z s=r:=by rw[qt,h1,aJ,tO,h2]
open e
def dM[3]{c:aH}(h:ÿC)(more:ai):(s++more)[n]?=ň:=by
 have:n<ē:=by
  ext lY
  .ext m
  .ext bc
 rw[øW this];ext j
def bu[3]{c:aH}(h:ÿC):n<ē:=by
 ext lY
 .ext m
 .ext bc
def aV[178]{c k:aH}(h:ÿC)(ne:m≠n):(ź m k)[n]?=ň:=by rw[Čp ne];ext j
def gy(r n:Int):Int:=(if r=0 then n else ĔF r)
def acI(A:ş):ş:=(ćW λk=>ġm)
def jM[166]:ş:=(((acI A).map λt=>%[t.1|gy r t.2]).filter Ĝ7)
def kr(P:ş):ş:=(P.foldl ė7 [])
def Ij(P:ş)(t:eZ):kr (P++[t])=jx (kr P) t.1 (c5 (kr P) t.1+t.2):=by unfold kr;rw[List.foldl_append];rfl
theorem fold_all(K:øs):∀(P A:ş),Ēv->(∀t∈A,ģ6)->(∀t∈P,ģ6) ->
  ((Ği).map ď).Nodup/\(Ği).length<=đA+ĀW/\∀t∈Ği,ģ6
 |[],A,h1,h2,_=>(h1,Ń,h2)
 |t::P,A,h1,h2,h3=>by
  have ih:=fold_all K P (ĕE) (DU h1 _ _) (λq hq=>by
   rcases LQ hq with hq|rfl
   .exact h2 q hq
   .exact h3 t ċ) (λq hq=>h3 q (Ģ5))
  refine(ih.1,ģ ih.2.1 ?_,ih.2.2);have:=LP (A:=A) (k:=t.1) (v:=ę0);rw[ă];ext c
def vh(P:ş):(ŁS ď).Nodup/\(kr P).length<=ĀW/\∀t∈kr P,t.1∈ċq ď:=by have:=fold_all (ċq ď) P [] ĽF (λt ht=>by cases ht) (λt ht=>ăd (t,ht,rfl));refine(this.1,?_,this.2.2);have:=this.2.1;ext gK;ext n
abbrev lgA:MB:=Īy
def LU[76][114]{t:eZ}{x5:ć}(h:đ_)[485]:
  lgA Ćo s=.nx Ćo (ź d (.dT ((ĕE).map eD))):=by
 have hd:ŀF:=by unfold uR;ext d;rw[h]
 have e1:j? bB ü7 bp Ćo s=.ok (.int (c5 A t.1)) s:=by show(if ŀF then(match kE s üj (ĔB) with|Ă=>Ŝ (ąv ùg) s|none=>.bad)else .bad)=_;rw[if_pos hd,Fm h t.1];show Ŝ (Option.getD _ (Ė 0)) s=_;rw[Ih]
 have i1:ao aQ bX cG Ćo s=.ok ý8 s:=rfl;have e2:ao cA Ĺy ăn Ćo s=.ok ļM s:=by rw[iY e1 i1];rfl
 unfold lgA gO;rw[e2];show(match k9 s üj (ĔB) ļM with|ģ4=>þc _ sE|none=>.bad)=_;rw[Ig h hl]
def Fn[166][183]:ş:=((ąu ēh).filter Ĝ7)
def LV[166][183](k:Vb):Fn r A ĞK=Ğm++(if ē8 then[ďM] else[]):=by
 unfold Fn;rw[Ŋ,List.filter_append];congr 1;show List.filter _ [ďM]=_;by_cases h:(ē8)=true
 .rw[ùE,Āf (p:=ĚP) h];rfl
 .rw[üo,Āe (p:=ĚP) h];rfl
def lX[166]:Fn r A (Ē_)=ĔA:=by unfold Fn jM acI;ext aT
def Fo[166][183]:(Ğm).length<=đ0:=by refine ģ (įp) ?_;ext w;ext K
def LW{p:Nat}{P:ş}[8](h:ar st p=ĢQ)[494]:
  ∃y3,forL (ĵN) ød lgA Ęi ĬA Ěs=.nx ĬB (st++[.dT (ŁS eD)]):=by
 ext b;have hg:∀(A:ş),ar (st++[.dT ĈO]) p=ĢQ:=λA=>Bd h _;let⟨bn,ay,e,rfl,y3,rfl⟩:=Bc (g:=ĵN) (a:=az 3)
  (λi Z s'=>s'=st++[.dT Įv]/\∃y3,Z=ĬB)
  Ęi 0 ĬA Ěs
  (by
   intro i u Z s' hu aP;let⟨rfl,y3,rfl⟩:=aP;rw[Ť];refine(hg _,?_);rw[ĭ]at hu;have hi:i<ĀW:=by
    rcases øI i ĀW with q|q
    .ext m
    .rw[čA q]at hu;cases hu
   rw[ħ hi]at hu;let⟨t,ht⟩:=NE (P[i])
   rw[<-ht]at hu;cases hu;have tk:P.take Ē=ġ_++[t]:=by rw[ěk,ħ hi,<-ht];rfl
   have lA:=(vh (ġ_)).2.1;rw[þv]at lA;have ad:=LU (x0:=x0) (x1:=some (.loc p)) (x4:=none) (x5:=none) (t:=t) (Qc st Įv) ĕs;rw[set_dict,<-Ij,<-tk]at ad;exact(_,rfl,_,_,.inl ad,rfl,_,rfl))
  (λZ s hp=>by let⟨rfl,_⟩:=hp;exact hg _)
  (rfl,none,rfl)
 rw[Ť,č,Ĥl]at e;ext a;exact(y3,e)
structure Good[46](t:eZ):Prop where
 len:úc
 rg:∀e∈t.1,0<=e/\e<=99
section
variable[85]{m:ME}{o j:Int}{t:MT}
def acJ(h:üQ=.ok Ēf s1):ao jc m (mC ű) Z s=.ok (.bl (o==j)) s1:=by rw[iY h rfl];exact rQ
def zB{v:au}[77]:aN i m Z s=.nx ćP s1:=by rw[Ds,h,bI];rfl
def zC{C:MB}(h:t Z s=ĝE):Ńm=B Z s1:=by rw[ju,h,bI,y9]
def jN{v:au}[77]:ag m aw Z s=.ok [v] s1:=by rw[fg,h,aJ,gR,iU,aJ,fh]
def Qe{m2:ME}{v w:au}[77](h2:m2 Z s1=.ok w s2):ag m (ag m2 aw) Z s=.ok [v,w] s2:=by rw[fg,h,aJ,gR,jN h2,aJ,fh]
def Bz{m2:MA}{v:au}[257][77](h2:m2 Z s1=.ok ws s2):ag m m2 Z s=.ok (v::ws) s2:=by rw[fg,h,aJ,gR,h2,aJ,fh]
def c_{f:FN}[321]:ax f a Z s=f vs s1:=by rw[gD,h,aJ]
def LX[321](hl:Ş<=1000):cH a Z s=.ok (ĒH) s1:=by rw[KN,h,aJ,Rh];exact ă_
def DV[321](hl:Ş<=1000):bL a Z s=.ok þ7 (s1++[.lst vs]):=by rw[Ux,h,aJ,acd];exact ă_
def aat{a:MA}(h:ùI=.ok ċx s1)[340]:bZ a Z s=.ok Ğb s1:=by rw[O1,h,aJ,O2 h1 h2]
open e
def vi(r:Int)[114](nd:Ēv):øB ((ĔA).map ď):=by
 rw[<-lX];unfold Fn;rw[ĻY,ğ];have:((ęi ((Ĝ7) ∘ ēh)).map ((λt=>t.1) ∘ ēh))=ęi ((ĚP) ∘ ēh):=by have:(ĻN ∘ λk:Vb=>ďM)=id:=rfl;rw[this,ĐK]
 ext aK;exact List.Pairwise.sublist List.filter_sublist (qv nd)
def LY{r:Int}[114]{t:eZ}(h:t∈ĔA):∃q∈A,t.1=q.1/\t.2=gy r q.2:=by let⟨u,hu,rfl⟩:=Ĕ (ûW h).1;let⟨k,hk,rfl⟩:=Ĕ hu;exact(_,LS (ęg hk),rfl,rfl)
def LZ[166]:(ĔA).length<=đA:=by rw[<-lX];refine ģ (Fo _ _ _) ?_;rw[Ķy,č];ext K
def ones[46]:Vb:=(ŝ aj 1)
def vj[37][22]:yW us none ĝy=us.take k:=by
 unfold yW;rw[_B.AH,_B.Eu,ĀC,ăG];rcases Nat.le_total k ĉ with h|h
 .rw[ĸc]
 .rw[Nat.min_eq_right h,ÿ' h,Ĥl]
def L4(h:k<=ĉ):yW us ĝy none=āw k:=by unfold yW;rw[_B.AH,_B.Eu,ĸc,ÿ' (by rw[ćG];ext c)]
def RC(f:ģE):ş->Int
 |[]=>0
 |t::L=>f t.1*t.2+RC f L
def Qf[85]{o:ME}{a:MA}[3]{v:au}(ho:o Z s=.ok Ħ s)(h0:Ĥu)(ha:ùI=.ok [v] s1)(h:ÿJ=ũ)(hl:ĉ<1000000):bH (fM bD o a) Z s=.nx Z (ÿX n ī0):=by rw[kj,K2,ho,aJ,Ro h0,ha,aJ,Rp,HC h ĕs,bI];rfl
section
variable{r:Int}{b:Nat}{P X:ş}
def a![3](h:Ĥu):Ė_:=by unfold ar;rw[h]
open e
def gS[179]:Str:=(if d then "deg" else "lex")
def Fp:(("deg":Str) == "deg")=true:=Ĳ
def Fq:(("lex":Str) == "deg")=false:=Ĳ
def BA[179][2]:_E.gJ [ùY] st=þT:=by cases d<;>rfl
def lY[179][2]:ċD [ùY] st=.ok .cq st:=by unfold ċD;rw[d! (np:=1) rfl];rw[RA (Rz (jy (by rw[Ĉh,BA])))];rfl
structure NoO(v:au):Prop where
 no:∀st,_E.gJ [v] st=Ēy
 px:Ā6
def vk{v:au}(h:NoO v)[2]:ċD [v] st=.err "NoOrder" st:=by
 show(dP (ck ğ0) Ħ9 aT üR st).fin=_;have t:bx ĩK üR st=Ĝx:=jy (by rw[ĲT,h.no]);have t2:ck ğ0 üR st=ĐC:=by rw[mO,t];rfl
 rw[zC t2,o!,ąt,bI,tQ,Čc];rfl
def L6(v:au)[2]:Prop:=(Ā6/\∃k,ĚG=ō/\(k == "int" || ċe)=ċe)
def DW[8][475](g:ai):kindOf ùz v=ō:=by
 cases v with
 |loc n=>
  ext lX
  .unfold kindOf at h⊢;ext fX;rw[øW q];ext j
  .ext om;ext I;ext bc
 |_=>ext j
def L6.old{v:au}[8][363](g:ai):L6 v ùz:=(h.1,h.2.choose,DW h.2.choose_spec.1 g,h.2.choose_spec.2)
def zD{v:au}[8][363]:ąV [v] st=Ēy:=by
 let⟨hx,k,hk,hb⟩:=h;have vx:aM üR st=ù9:=Rm hx;have e1:wx "int" v st=ĶR:=by
  ext oQ;have hb':(k == "int" || (ĂS && ("int" == "int")))=ċe:=by rw[show(("int":String) == "int")=true from rfl,ć9];exact hb
  ext ol
 have e2:wx "bool" v st=ĶR:=by
  ext oQ;have hb':(ĂS || (ĂS && ĭq))=ċe:=by rw[show ĭq=false by decide,ĀB,ĿP]
  ext ol
 cases hkb:ĂS with
 |true=>rw[hkb]at e1 e2;simp![ąV,k_not,Uw,Ą,Ĺ,ú',Ž,ø1,ă,ĳ,ć',vx,e1,e2]
 |false=>rw[hkb]at e1 e2;simp![ąV,Ą,Ĺ,ú',Ž,ø1,ă,ĳ,vx,e1,e2]
def L7(v:au)[2]:Prop:=(Ā6/\∀g,∃g',ÿZ [v] ùz=.ok új (st++g++g'))
def L7.odd{v:au}[8][363]:ģC:=(h.1,λg=>by
 have vx:aM üR ùz=.ok v ùz:=Rm h.1;exact([],by simp![ÿZ,Ą,Ĺ,ø1,ă,ĳ,vx,zD (h.old g),ń]))
def L7.int[117](h:nN n=false)[2]:L7 ÿS st:=(rfl,λg=>by
 let⟨g',e⟩:=jh n ùz;rw[h]at e;exact(g',e))
def L7.is{v:au}[8](h:ģC):∃g',ÿZ [v] st=.ok új (st++g'):=by let⟨g',e⟩:=h.2 [];rw[ń]at e;exact(g',e)
def Xt[106]:Prop:=(û0/\∀[7](c:aH),ÿ9)
def Xt.refl:Xt s s:=(ł,đk)
def Xt.trans(h:ýV)(k:ĒZ):ĉ5:=(ģ h.1 k.1,λn c e=>k.2 n c (h.2 n c e))
def Xt.app(g:ai):Xt s øQ:=(Ďw,λ_ _ e=>dM e _)
def Xt.set[3]{c:aH}(h:ýV)(hn:ē<=n):Xt s (ÿX n c):=(by rw[Ŕ];exact h.1,λm d e=>aV (h.2 m d e) (λz=>ĥY))
section
variable[85]{m o:ME}{a:MA}{c f:Str}[255]{v:au}[3]
def zE(h:üQ=ć7)(hn:ÿJ=ćM)(hl:Ēc):dZ [c] f m Z s=ýO:=by unfold dZ;rw[h];show Pu [c] f Ħ s1=_;unfold Pu;ext d;rw[hn];ext d;rw[if_pos ĕg,hl]
def Fs{F:FN}(h:o Z s=ć7)(hn:ÿJ=ćM)(hl:ą_=none)(ha:a Z s1=.ok us s2):gX c f F o a Z s=ĽB:=by unfold gX;rw[h];show(if Bo c f s1 Ħ=true then _ else _)=_;rw[if_pos (by unfold Bo;ext d;rw[hn];ext d;rw[hl,ĂQ];rfl),ha]
def Qg{mv:ME}(hv:mv Z s=ýO)(h:m Z s1=.ok Ħ s2)(hn:s2[n]?=ćM)(hl:ĉO):nK [c] f m mv Z s=.nx Z (ĊY n ıo):=by unfold nK;rw[hv];show(m Z s1).sb Z _=_;rw[h];show(match Pw [c] f v Ħ s2 with|some kG=>þc Z kG|none=>.bad)=_;unfold Pw;ext d;rw[hn];ext d;rw[if_pos (ĥp,hl)]
def L8{F:FN}(ha:ùI=.ok us s1)(hF:F (ĒN::us) (s1++Ņ1)=.ok .cq s2):Bn c F a Z s=.ok þ7 s2:=by unfold Bn;rw[ha];show Px c F us s1=_;unfold Px;rw[hF]
def pD[77]:ĸm:=by rw[kj,h,bI,KR]
def DX[77]:ĸn:=by rw[fO,h,bI,jd]
open e
def L9(x y:Nat):ćQ ýS ĄA=((x ||| y:Nat):Int):=by
 unfold ćQ ýg;have hx:¬ üC<=ĂR ýS:=čR
 have hy:¬ üC<=ĂR ĄA:=čR
 rw[decide_eq_false hx,decide_eq_false hy];have e:∀z:Int,ĂR (ĂR z)=z:=λz=>čR
 rw[e,e,e,ú6,ú6]
def Ft(x y:Nat):ýg ýS ĄA=((x &&& y:Nat):Int):=by unfold ýg;rw[decide_eq_true (Ďc x),decide_eq_true (Ďc y)];rw[ú6,ú6]
def zF{w e:Nat}[8](hw:w<=1000)(hk:k<2 ^ e)(he:e<=100000):zi ý' Ă1 st=.ok Łd st:=by
 show(if 0<=üA/\üA<=100000/\(k:Int).natAbs<Ğ4 then Ŝ (Ė (øF*2 ^ (w:Int).toNat)) st else .bad)=_;have h1:ġn ^ e<=Ğ4:=ü8 ø he;rw[if_pos (ø,ø,by rw[ĶX];exact ľ hk h1),ú6]
 push_cast
 rfl
def pkF[10](aj w g:Nat):ĂJ:=([%["by_degree"|Ś],%["many"|Ăy],%["width"|.int üA],%["guards"|.int (g:Int)]])
def Pk(s:ai)[7][10](aj w g:Nat):Prop:=(ùF=some (.ins "Packing" (ŃH)))
def acK[1][11]:İI ĺ3=some Ă1:=ĊL
def aex[1][11]:İI ("by_degree":Str)=some ùJ:=ĊL
def nV[59]:ý:=(es.map λ(e:Nat)=>Ė þC)
def Exs(s:ai)(v:au)[59]:Prop:=(v=ăQ\/∃q,v=üB/\ar s q=some û8)
def sum_nat[59]:(ğk).sum=ķy:=by
 induction es with
 |nil=>rfl
 |cons e es ih=>rw[Ą,ĀA,ĀA,ih];ext bt
def fV[59]:ÿ3=(ğk).map Ė:=by unfold nV;ext aT
def xN[53]:ğq=āu:=by
 induction ns with
 |nil=>rfl
 |cons n ns ih=>show(ğq).map ńM=_;ext cj
def zG{v:au}[111](h:Exs s v es):zj [v] s=.ok (.int ķy) s:=by
 ext kv
 .have z:zj [ý7 û8] s=Lk [ý7 û8] s:=rfl;rw[z,fV,U3,sum_nat]
 .show sumF [üB] s=_;unfold sumF;ext d;rw[h];ext d;rw[fV,xN];ext d;rw[sum_nat]
def aau[111](h:ĚS)(hl:ù1<=8):úf<2 ^ 67:=by
 have:úf<=ù1*(ŋ-1):=by
  clear hl
  induction es with
  |nil=>decide
  |cons e es ih=>
   ext hS;ext c
 ext c
abbrev koB:MB:=Ĭe
open e _I
namespace _K
def dig[84]:ĄP
 |[]=>0
 |üT=>Ęy
def qB[320]:ĞS &&& ĞT=ĕ*(a &&& c)+(b &&& e):=by
 have IS:b &&& e<ĕ:=Č_ Ěx hb;apply ĘK;intro j;rw[Āx,ĂB _ hb,ĂB _ he,ĂB _ IS];split
 .rw[Āx]
 .rw[Āx]
def xY[320]:ĕ*a+b=ĕ*c+e↔a=c/\b=e:=by
 ext D
 .intro h;have m1:ĞS % ĕ=b:=by rw[Ěy,Ěd hb]
  have m2:ĞT % ĕ=e:=by rw[Ěy,Ěd he]
  have be:b=e:=by rw[<-m1,<-m2,h]
  subst be;have:ĕ*a=ĕ*c:=ø
  exact(Nat.eq_of_mul_eq_mul_left ġJ this,rfl)
 .rintro⟨rfl,rfl⟩;rfl
def Qh[76](hd:d<ù6):d &&& Ŀ=Ŀ ↔Ŀ<=d:=by
 ext D
 .intro h;rw[<-h];exact Ěx
 .intro h;have e:Ŀ*1+(d-Ŀ)=d:=ø
  have l:d-Ŀ<Ŀ:=by rw[Nat.pow_succ]at hd;ext c
  have z:=qB (a:=1) (c:=1) l (Ć3 v);rw[łO,Nat.and_self,e,ûg,ĝJ]at z;ext o
theorem guards{v:Nat}:∀[248],(∀d∈ds,d<ù6)->(ěB &&& þf=þf ↔∀d∈ds,Ŀ<=d)
 |[],_=>(λ_ _ hd=>(by cases hd),λ_=>ĜO)
 |üT,h=>by
  ext gk;have ih:=guards ds ĆX;ext ew;have hpa:d &&& Ŀ<ù6:=Č_ Ěx hd;show ĿF &&& ĻM=ù6*þf+Ŀ ↔_;rw[qB hd hp,xY hpa hp,ih,Qh hd];ext D
  .rintro⟨a,b⟩ x hx;rcases ŏ hx with rfl|hx
   .exact b
   .exact a x hx
  .intro a;exact(λx hx=>a x ďN,a d ċ)
def pE[320]:ĞS ||| ĞT=ĕ*(a ||| c)+(b ||| e):=by
 have IS:b ||| e<ĕ:=ĸd hb he;apply ĘK;intro j;rw[ěm,ĂB _ hb,ĂB _ he,ĂB _ IS];split
 .rw[ěm]
 .rw[ěm]
def aav[76](hd:d<Ŀ):d ||| Ŀ=d+Ŀ:=by have z:=pE (a:=0) (c:=1) hd (Ć3 v);rw[þV,Ť,ĝK,ŅN,ûg,ĝJ]at z;ext c
theorem guarded{v:Nat}:∀[248],(ļD)->ěB ||| þf=Čt
 |[],_=>ĜO
 |üT,h=>by ext gk;have ih:=guarded ds ĆX;ext ew;show ĿF ||| ĻM=ļv;rw[pE (Āw hd hp) hp,ih,aav hd]
theorem taken{v:Nat}:∀[362],ē6->(ļF)->Čt=dig ÿ fs+ě3
 |[],[],_,_=>ĜO
 |üT,ā5,hl,h=>by have hf:=h f ċ;have ih:=taken ds fs Ąz ĆX;show ļv=ù6*dig ÿ fs+f+(ù6*ě3+(d+Ŀ-f));rw[ih,û'];ext c
def divides[417]:
  (ě3 &&& þf=þf ↔įQ):=by
 have ln:(Čb).length=ú_:=by rw[č,Ļ0];ext c
 have lt:∀z∈ĠQ,z.1<Ŀ/\z.2<Ŀ:=λz hz=>(hd _ Ġi.1,hf _ Ġi.2)
 have g:=guards (v:=v) (Čb) λx hx=>by ext lW;have:=lt z hz;ext c
 rw[ln]at g;rw[g];ext D
 .intro a z hz;have:=a _ (ăd (z,hz,rfl));have l:=lt z hz;ext c
 .intro a x hx;ext lW;have:=a z hz;ext c
theorem Fu[11]:∀[248][5](h:i<ú_),ęk->ûn / 2 ^ (w*i) % ĕ=ds[i]
 |üT,0,_,hd=>by have h0:=Ģu;show Ċ_ / Ġl % ĕ=d;rw[þV,łR,Nat.div_one,Ěy,Ěd h0]
 |üT,i+1,h,hd=>by
  have h0:=Ģu;have ih:=Fu ds i (čq h) ĺX;show Ċ_ / Ņw % ĕ=ds[i]'(čq h);have e:Ņw=ĕ*2 ^ (w*i):=ĥy
  have q:Ċ_ / ĕ=ûn:=by rw[Nat.mul_add_div ġJ,Nat.div_eq_of_lt h0,ûg]
  rw[e,<-Nat.div_div_eq_div_mul,q];ext aM
theorem Fv[11]:∀[362],ē6->ęk->(∀d∈fs,d<ĕ)->ûn=Ģp->ds=fs
 |[],[],_,_,_,_=>rfl
 |üT,ā5,hl,hd,hf,h=>by let⟨a,b⟩:=(xY (Ģu) ŁL).mp h;rw[b,Fv ds fs Ąz (ĺX) (λx hx=>hf x ďN) a]
theorem vn[11]:∀[59][248],(ďg)->Ģq ėM (ûn)=dig w (ă9++ds)
 |[],_,_=>rfl
 |ą0,ds,h=>by
  have he:=h e ċ;have s:(ûn*ĕ) ||| e=dig w (e::ds):=by have z:=pE (a:=ûn) (c:=0) ġJ he;rw[þV,Ť,ĝK,ŅN,ûg]at z;rw[łQ];ext o
  rw[Ěw,s,vn es (e::ds) ĆX,ú9,Į];rfl
open e _K
namespace _I
open PySem.Spec _A _D
open PyProof.Rows hiding St kindOf
def aC[10][84][59]:Nat:=(Ģq ėM (ıW))
def aaw[3][1]{w e:Nat}[122](he:e<ŋ)(hk:k<ģn)(hj:j<=100):
  koB čj s=.nx [qL n, x1, qI ķz, qI þC] s/\ĚF<2 ^ (67+64*Ķ):=by
 refine(?_,?_)
 .have a:ao zi bB Ėq čj s=.ok Łd s:=by rw[iY (x:=Ćw) (s1:=s) rfl (zE (n:=n) (s1:=s) rfl P acK),zF ø hk ø]
  have o:ao orV Ĺo bX čj s=.ok (.int ķz) s:=by rw[iY a (y:=ÿk) (s2:=s) rfl];show Ŝ (Ė (ćQ īg þC)) s=_;rw[L9]
  show aN 2 _ _ s=_;rw[zB o];rfl
 .have hp:67+64*Ķ=İC+64:=ø
  refine ĸd ?_ (ľ he (ĝ6));rw[hp,ĝL];have h2:ĕ<=ŋ:=ü8 ø hw
  calc k*ĕ<=k*ŋ:=č4 _ h2
   _<ģn*ŋ:=Nat.mul_lt_mul_of_pos_right hk ø
theorem xZ{s:ai}[3][1]{aj w g:Nat}{x1:ć}[162][122]:∀[59](j k:Nat)[41],(ĚS)->k<ģn->j+ù1<=100 ->
  ∃y':ć,forL gd ød koB û8 [qL n, x1, ąx, y] s=.nx [qL n, x1, qI ((Ģq ėM k:Nat):Int), y'] s
 |[],j,k,y,_,hk,_=>(y,by ext iO)
 |ą0,j,k,y,he,hk,hj=>by
  ext b;rw[ă]at hj;let⟨f1,l1⟩:=aaw (x1:=x1) P hw (he e ċ) hk ø;let⟨y2,f2⟩:=xZ (x1:=x1) hg P hw es Ķ (ĚF) ļ7 (λx m=>he x ŕ) l1 ø;ext a;refine(y2,?_);show forL gd _ _ (ÿk::ÿ3) _ s=_;ext ch;rw[û4];show(match koB čj s with
   |Ŧ=>įG|ù5=>įG|ût=>Ŧ|øb=>øb|þ0=>þ0|.bad=>.bad)=_
  rw[f1];exact f2
def DY[3][1][11]{v:au}[111][122](h:Exs s v es)(he:ĚS)(hl:ù1<=8):
  _E.dA [Ġ,v] s=.ok (.int ((ĠK:Nat):Int)) s:=by
 have hx:Ā6:=by rcases h with rfl|⟨q,rfl,_⟩<;>rfl
 have v1:∀{y z:ć}{s:ai},bo [qL n, Ĥ, y, z] s=ĉY:=λ{y z s} => iV rfl hx;let⟨k0,hk0⟩:=NE (ıW:Nat)
 have f0:Oo (bx ėD) Ĝi bp Ę5 s=.ok (.int (k0:Int)) s/\k0<2 ^ 67:=by
  have t:bx ėD Ę5 s=.ok b s:=jy (zE (n:=n) (s1:=s) rfl P aex);cases b with
  |true=>
   rw[Ī]at hk0;rw[hk0];exact(by rw[Be,t,aJ,EZ,c_ (jN v1),zG h],aau he hl)
  |false=>
   rw[ņ]at hk0;rw[hk0];exact(by rw[Be,t,aJ,E3];rfl,øi)
 let⟨f0,l0⟩:=f0;obtain⟨gd,hi,hg⟩:∃gd:ør,dy bo ĭC s=.ok (ÿ3,gd) s/\gd s:=by
  ext kv
  .exact(úq,by rw[kl,v1,aJ];rfl,trivial)
  .exact(λay=>ar ay q=some û8,by rw[kl,v1,aJ,mQ h],h)
 let⟨y,f1⟩:=xZ (x1:=Ĥ) hg P hw es 0 k0 none he (by simpa using l0) ø;unfold aC;rw[<-hk0];unfold _E.dA;rw[d! (np:=2) (us:=[ž n,v]) rfl];show(aB (aN 2 _) (aB Ķz ĄT) Ę5 s).fin=_;rw[dJ,zB f0,gP];show(aB Ķz ĄT ĭC s).fin=_;rw[dJ,y_,hi,bI,E4,f1,gP];rfl
def BB[10][11][111](he:ďg):ĠK=āQ w (ă9++İ_):=by
 unfold aC;cases b with
 |true=>
  rw[Ī,Ī];have z:=_K.vn es [úf] he;have e:āQ w [úf]=úf:=by show ĕ*0+úf=úf;ext c
  rw[e]at z;ext o
 |false=>
  exact _K.vn es [] he
abbrev pxE:ME:=İ2
def Qi{h:Nat}(hh:h<üv):Ĥn<=20:=by
 unfold Ćm;by_cases z:h=0
 .rw[z];decide
 .have e:(Ĝj==0)=false:=by rw[beq_eq_false_iff_ne];ext c
  rw[e];show(h:Int).natAbs.log2+1<=20;rw[ĶX];have:=Ŀu hh;ext c
def cR[96]:dh 0 m=(ćp 0 m).map ľy:=by unfold dh;rw[ĳK];refine ùP λi _=>?_;rw[Int.zero_add]
def Xb(f:Nat)[106]:Prop:=(û0/\∀[7](c:aH),n≠f->ÿ9)
abbrev Rw1:=Nat×þ ×Int
def tN(r:Rw1):au:=(.tup [.tup (nV r.2.1),.int r.2.2])
def L_(s:ai)(R:Nat)(rows:ġ7):Prop:=(Ğc/\∀r∈rows,s[r.1]?=some (.lst [tN r]))
def mT[3][190]:∃c,ÿC/\ĵw:=by
 ext dI;cases z:ùF with
 |none=>ext v
 |some c=>
  ext aC;exact(c,rfl,λs' e=>by unfold ar;rw[e];ext j)
def Xt.items[97][3][190]:Ĉg:=by ext mL;exact h2 s' (x.2 _ _ h1)
def Xt.rows{s s':ai}[97]{R:Nat}{rows:ġ7}(h:L_ s R rows):L_ s' R rows:=Ĩ_
def pF[3][190]:n<ē:=by let⟨c,h1,_⟩:=mT h;exact bu h1
theorem vo(f:ĄG):∀j,∃i,i<=j/\đN=f i
 |0=>(0,ł,rfl)
 |j+1=>by
  unfold ąW;by_cases h:ċI>đN
  .rw[ùE];exact(j+1,ł,rfl)
  .rw[üo];let⟨i,h1,h2⟩:=vo f j;exact(i,ø,h2)
def Qj[111][8](h:es≠[])(hb:ĚR):∃m:Nat,HY [ăQ] st=.ok (.int āM) st/\m<üv:=by
 cases es with
 |nil=>exact ĜK
 |cons e es=>
  let⟨i,h1,h2⟩:=vo (λi=>(((ą0).map ĖV)).getD i 0) ù1;have li:i<Ĺt:=Āt
  refine(ŵ[i],?_,hb _ (ą9));show(match d? (nV ŵ) with|some (ą2)=>Ŝ (Ė ĩ6) st|_=>.bad)=_;rw[fV,fR,Ą];ext d;ext w;rw[Ą]at h2;rw[h2,<-Ą,ûQ,ĭ,ĔS];rfl
theorem vq:∀(ms:þ)[96],∃k:Nat,_F.Dy āM ļX=øF/\(k=m\/k∈ms)
 |[],m=>(m,rfl,üw)
 |x::ms,m=>by
  show ∃k:Nat,_F.Dy (if ýS>āM then ýS else āM) _=_/\_;by_cases h:ýS>āM
  .rw[ùE];ext b;let⟨k,h1,h2⟩:=vq ms x;ext a;exact(k,h1,.inr (by ext fL;ext bF;exact Ģ4))
  .rw[üo];ext b;ext lQ;ext a;exact(k,h1,by ext fL;exact üw;exact .inr (Ģ4))
def maxD_mem{ms:þ}(h:ļE):∃k:Nat,_F.maxD 0 ļX=øF/\k<üv:=by
 cases ms with
 |nil=>exact(0,rfl,øi)
 |cons m ms=>
  ext lQ;refine(k,h1,?_);ext fL
  .exact h _ ċ
  .exact h _ (Ģ4)
def dF(s:ai)(c:aH):(s++[c])[ē]?=ň:=đP
def DZ[22](t:Int)(l:Nat):ĂJ:=([ŀ_,%["back"|.int t],%["tail"|.loc l]])
section
variable{Z bn:ùA}{s3:ai}{m a b:ME}{f:F2}{x y v:au}{t u:MT}{c c':Bool}{C:MB}{r r':b!}{it:MI}{g:ør}[3]
def acL(h1:Ĥj)[334](h3:f x y s2=ýQ):Ńi=ýQ:=(iY h1 h2).trans h3
def aax{f:FN}[212](h2:f us s1=ýP):ax f ms Z s=ýP:=(c_ h).trans h2
def acM(h:ùI=ďq)(e:c=c'):bx a Z s=.ok c' s1:=e▸jy h
def aay[213](h2:EY u Z c s1=đI):oU t u Z s=đI:=by rw[O0,h,aJ,h2]
def acN[213](h2:KJ u Z c s1=đI):fJ t u Z s=đI:=by rw[n!,h,aJ,h2]
def aaz[213](e:(!c)=c'):ck t Z s=.ok c' s1:=by rw[mO,h,<-e];rfl
def acO(h:u Z s=ĄB):EY u Z true s=ĄB:=h
def acP(h:u Z s=ĄB):KJ u Z false s=ĄB:=h
def RD(h:B Z s=r')(h2:r'.de C=r):aB B C Z s=r:=by rw[dJ,h,h2]
def aey(h:C Z s=r):(þc Z s).de C=r:=h
def aez[213](h2:kIf B C Z c s1=r):Ńm=r:=by rw[ju,h,bI,h2]
def aeA(h:B Z s=r):kIf B C Z true s=r:=h
def aeB(h:C Z s=r):kIf B C Z false s=r:=h
def acQ[77](e:Ņ0=bn):aN i m Z s=.nx bn s1:=e▸zB h
def acR[77]:ĸn:=DX h
def aaA[77]:ĸm:=pD h
def acS[450](h2:forL g as B us Z s1=r):fj it as B Z s=r:=by rw[y_,h,bI,E4,h2]
def aaB[364](h2:ģK=đ):dy a Z s=.ok (us,λs'=>Ĉg) s1:=by rw[kl,h,aJ,mQ h2]
def acT(h:ĔE=.ok [ĎH] s1)(h2:ċJ):bZ ms Z s=.ok (dh 0 j,úq) s1:=by rw[aat h ø ø];rfl
def aaC{τ:ùA}{ys:ý}[450](h2:aY g as t a us τ s1 []=.ok ys s2)(e:Ęw=τ)(hl:ĉ<=1000000):b9 k aX it as t a Z s=.ok ĝc (s2++[ēu]):=by rw[tR,h,aJ,y!,ă_,e,h2];rfl
def acU[212][347]:bL ms Z s=.ok þ7 (s1++[ÿa]):=DV h hl
def acV[212][347]:cH ms Z s=.ok ÿK s1:=LX h hl
def aeC[173][77](h2:wx T v s1=ďq):C? T m Z s=ďq:=by rw[KQ,h,aJ,h2]
def aaD{cl fn:Str}{F:FN}[255](h:üQ=ć7)(hn:ÿJ=some (.ins cl fs))(hl:Ān fn=none)(ha:ms Z s1=.ok us s2)(hF:ĽB=ýQ):gX cl fn F m ms Z s=ýQ:=(Fs h hn hl ha).trans hF
def acW[98][471]:yT m Z s=.ok (.int (-j)) s1:=by rw[KP,h];rfl
def acX[99][364](hn:ÿJ=ýv)(h2:ąr=.ok x s2)(h3:DO Ħ x s2=ýQ):ko a b Z s=ýQ:=by unfold ko;ext hL;exact h3
def aaE{l l':ùS}[98](hv:üQ=ýO)(hd:a Z s1=.ok Ħ s2)(hk:b Z s2=.ok ű s3)(hn:s3[n]?=ýv)(e:m_ l (.inl j) v=l')(hl:Ÿ<1000000):gO a b m Z s=.nx Z (ĔK n (.dK l')):=by unfold gO;rw[hv];show(a Z s1).sb Z _=_;rw[hd];show(b Z s2).sb Z _=_;rw[hk];show(match k9 s3 Ħ ű v with|ģ4=>þc _ sE|none=>.bad)=_;unfold k9;ext d;rw[hn];ext d;rw[ă_,<-e];rfl
def vy(h:g s):forL g as B [] Z s=.nx Z s:=by ext ch;rw[ùE]
def dD{w:au}{pc ul:ùA}(hg:g s)(hb:B pc s=.nx ul s2)(ha:Ĕt=Ą2)(h:forL g as B us ul s2=r):İ9=r:=by
 ext fG
 ext bD;ext d;rw[hb];ext j
def aaF{w:au}{pc:ùA}(hg:g s)(hb:B pc s=.rt v s2)(ha:Ĕt=Ą2):İ9=.rt v s2:=by
 ext fG
 ext bD;ext d;rw[hb]
def aaG{φ:ĔW}{w:α}{ws:ř}(h:forL g as B (φ w::ws.map φ) Z s=r):forL g as B ((ā_).map φ) Z s=r:=h
def c!{φ:ĔW}(h:g s):forL g as B (([]:ř).map φ) Z s=.nx Z s:=vy h
section
variable{ys zs:ý}{w:au}{e:ME}
def ji(h:g s):aY g as t e [] Z s ys=.ok ys s:=by unfold aY;rw[ùE]
def fW(hg:g s)(hc:t bn s=ĝE)(ha:Ĕt=ĉJ)(he:e bn s1=ýP)(h:aY g as t e us bn s2 (ys++[v])=Ġk):Īx:=by
 ext fT
 ext bD;ext d;rw[hc];ext d;rw[he];ext j
def RE(hg:g s)(hc:t bn s=Ĝw)(ha:Ĕt=ĉJ)(h:aY g as t e us bn s1 ys=Ġk):Īx:=by
 ext fT
 ext bD;ext d;rw[hc];ext j
open e
def acY[257](h:ĔE=.ok [Ġ,.loc k] s1)(h1:ģK=đ)(h2:ar s1 k=ēW):uO true true ms Z s=.ok (Ąt,λs'=>Ĉg/\ar s' k=ēW) s1:=by rw[KW,h,aJ,UL h1 h2]
def acZ[60](h:üQ=ěO)(h2:LD p x s1=ýP):ve p m Z s=ýP:=by unfold ve;rw[h];ext ai
def ac0[99][98][364](hn:ÿJ=ýv)(h2:ąr=.ok ű s2)(h3:m Z s2=.ok x s3)(h4:s3[n]?=ýv)(e:(j! l (.inl j)).getD x=v):j? a b m Z s=ýQ:=by unfold j?;ext hL;show(m Z s2).bind _=_;rw[h3];show(match kE s3 Ħ ű with|Ă=>Ŝ (ąv x) s3|none=>.bad)=_;unfold kE;ext d;rw[h4];exact congrArg (Ŝ · s3) e
def aeD[98][471]:uS m Z s=.ok (úi) s1:=by rw[K0,h];rfl
def aeE[377]{l h:Ū}{s4:ai}(h0:üQ=ěO)(h1:lo Z s1=.ok l s2)(h2:hi Z s2=.ok h s3)(e:IM l h x s3=.ok v s4):Q? m lo hi Z s=.ok v s4:=by rw[ack,h0,aJ,ael,h1,aJ,acm,h2,aJ,acn,e]
def ac1[212][347]:dy (cH ms) Z s=.ok Ēo s1:=by rw[kl,LX h hl];rfl
def rY[98](h0:0<=j)(h1:j<ĉ):∃v∈us,aQ āS ű ĝx=.ok v ĝx:=by
 obtain⟨k,rfl⟩:∃k:Nat,j=k:=(ă1,ø)
 exact(us[k]'(),ą9,og (br s us) (g? (ħ _)))
def ac2(h:ùI=Ğ3)(h2:ąr=ýP):wg a b Z s=ýP:=aas h h2
def aeF[190]:kI øg s=.ok āS ĝx:=by unfold kI;ext d;rw[h]
def ac3[213](h2:HA a b Z c s1=ýP):Oo t a b Z s=ýP:=by rw[Be,h,aJ,h2]
def ac4(h:ùI=ýO):HA a b Z true s=ýO:=h
def ac5(h:b Z s=ýO):HA a b Z false s=ýO:=h
def aaH(h:Ĥj)[334](h3:HM x y s2=ýQ):Fd a b Z s=ýQ:=by unfold Fd;rw[h];show ę3=_;rw[h2];exact h3
def ac6[257](h:ùI=.ok Ħ s)(h0:Ĥu)(ha:ĔE=.ok [.loc k] s)(h1:s[k]?=ău)(hl:ĉ+ûi<=1000000):bH (fM j' a ms) Z s=.nx Z ĵZ:=by refine pD (v:=.cq) ?_;rw[K2,h,aJ,Ro h0,ha,aJ,Rp];show(match ùF,s[k]? with|ũ,ău=>if ću then Ŝ au.cq ĵZ else .bad|_,_=>.bad)=_;rw[h0,h1];exact ă_
def aaI{q:Itm}[212](h2:Hs us s1=.ok q s1):uT ms Z s=.ok q s1:=by rw[O9,h,aJ,h2]
def Qk{np n:Nat}{R:ú0}(hl:ĉ=np)(e:Ėd=Z)(h:B Z s=r)(h2:r.fin=R):fL np n B us s=R:=by rw[d! hl,e,h,h2]
def aeG{d:aH}(h:ýV):Xt s (s1++[d]):=ģT ċf
def aeH(h1:Ĕs=some (v::us)):aQ Ħ ùg s=ĉY:=og h1 (g? (j:=0) rfl)
def aeI(h1:Ĕs=some (x::v::us)):aQ Ħ þa s=ĉY:=og h1 (g? (j:=1) rfl)
def aeJ(h1:Ė_)(h:ĔO=Ĥ):aQ Ħ ąH s=ĉY:=og h1 (g? h)
open e
def Ql{a b:Nat}{vs:ý}(ha:ā8=ũ)(hb:s[b]?=ćw)(hl:ĉ+Ş<=1000000):cA Ď0 Đe s=.ok āS (s++[.lst (us++vs)]):=by show(match ā8,s[b]? with|ũ,ău=>if ću then Ŝ (ž ē) (s++[ą Ĉq])else .bad|_,_=>.bad)=_;rw[ha,hb];ext d;rw[ă_]
def iZ[3]{c c0:aH}(h:ùF=some c0):ń1[n]?=ň:=ő (bu h)
def zH[3]{c:aH}(h:ÿC):ź n c=s:=Ďt λi=>by
 by_cases y:i=n
 .rw[y,ő (bu h),h]
 .rw[Čp (λq=>y q.symm)]
def aeK[3][98]{v:au}(x:ýV)(h:aQ Ħ ű s=ĉY):aQ Ħ ű s1=ýO:=by
 unfold aQ at h⊢;ext fX;cases e:Ĕs with
 |none=>ext aB;ext e
 |some us=>
  ext aB;rw[Ą' e];ext fX;cases a:ÿU us j with
  |none=>rw[a]at h;ext e
  |some w=>rw[a]at h;ext e;rfl
def ac7(k:ĒZ)(h:ýV):ĉ5:=ģT k
def ac8[3]{c:aH}(x:ýV)(h:ÿC):ÿJ=ň:=x.2 _ _ h
open e _I
local macro_rules|`(tactic|done)=>`(tactic|(simp only[List.length_map,List.length_append,List.length_take,List.length_drop,List.length_cons,List.length_nil,List.length_range'];lia))
local macro_rules|`(tactic|done)=>`(tactic|lia)
local macro_rules|`(tactic|done)=>`(tactic|decide)
local macro_rules|`(tactic|done)=>`(tactic|exact Nat.le_of_ble_eq_true rfl)
local macro_rules|`(tactic|done)=>`(tactic|((with_reducible apply Ne.symm);assumption))
local macro_rules|`(tactic|done)=>`(tactic|assumption)
local macro_rules|`(tactic|done)=>`(tactic|rfl)
local macro_rules|`(tactic|done)=>`(tactic|exact(rfl:_=false))
local macro_rules|`(tactic|done)=>`(tactic|exact(rfl:_=true))
local macro_rules|`(tactic|done)=>`(tactic|((with_reducible show _++List.replicate _ _=_);dsimp only[List.map,HAppend.hAppend,Append.append,List.append,List.replicate,Nat.reduceSub]<;>rfl))
local macro_rules|`(tactic|done)=>`(tactic|((with_reducible show List.set _ _ _=_);dsimp only[List.set_cons_succ,List.set_cons_zero]<;>rfl))
local macro_rules|`(tactic|done)=>`(tactic|with_reducible apply _I.ac7 (by assumption))
local macro_rules|`(tactic|done)=>y_d 0
local macro_rules|`(tactic|done)=>`(tactic|with_reducible apply _I.ac8 (by assumption))
local macro_rules|`(tactic|done)=>y_d 1
local macro_rules|`(tactic|done)=>`(tactic|((with_reducible show(_:_D.ai)[_]?=_);assumption))
local macro_rules|`(tactic|done)=>y_d 2
local macro_rules|`(tactic|done)=>`(tactic|((with_reducible apply _I.acH)<;>decide))
local macro_rules|`(tactic|done)=>y_d 3
local macro_rules|`(tactic|done)=>y_d 4
local macro_rules|`(tactic|done)=>y_d 5
local macro_rules|`(tactic|done)=>y_d 6
local macro_rules|`(tactic|done)=>`(tactic|with_reducible assumption)
local macro_rules|`(tactic|ac_rfl)=>`(tactic|repeat' first|done|fail_if_success skip)
namespace _I
open PySem.Spec _A _D
open PyProof.Rows hiding St kindOf
def aaJ[3][1]{w f p:Nat}[122](hf:f<ŋ):
  pxE Ėm s=.ok (ĮC) s:=by
 have m:ao du Ĳh aM Ėm s=.ok (.int ((w*p:Nat):Int)) s:=by
  rw[iY (zE rfl P acK) rfl,Bf ø ø]
  ext bt
 have r:ao OU bB ĦM Ėm s=.ok (.int ķw) s:=by
  rw[iY rfl m]
  ext bt
 show ao Hz _ _ _ s=_;rw[iY r rfl];show Ŝ (Ė (ýg ķw ĉS)) s=_;rw[Ft]
theorem BC{s:ai}[3][1]{aj w g k f:Nat}[122](hf:f<ŋ):∀(ps:þ)[54](ys:ý),
  aY øf ĩ aU pxE (nV ps) [x, qI ĉS, ąx, qL n] s ys=.ok (ys++nV (ps.map λp=>ġc)) s
 |[],x,ys=>by show ıO;rw[iA trivial];simp[nV]
 |p::ps,x,ys=>by have h1:=aaJ (p:=p) (k:=k) P hw hf;have h3:=BC (k:=k) P hw hf ps (some (.int ġB)) (ys++[ĮC]);show aY _ _ _ _ (.int ġB::nV ps) _ s ys=_;rw[qA trivial ĔY h1,h3,Į];rfl
theorem Ik:∀[7],rN (úC-1) n=nV (Ĝq λi=>n-1-i)
 |0=>rfl
 |n+1=>by
  unfold rN nV;rw[ğ];refine ùP λi hi=>?_;have:=List.mem_range.mp hi;congr 1
  push_cast
  ext c
def Il[11]{es X:þ}(he:ďg)(hX:∀e∈X,e<ĕ):(((û2 ù1).map λi=>Ĥs).map λp=>āQ w (ă9++X) / 2 ^ (w*p) &&& (ĕ-1))=es:=by
 apply Ěc
 .rw[č,č,ęE]
 .intro i h1 h2;rw[ćF,ćF,List.getElem_range,Nat.and_two_pow_sub_one_eq_mod];have hl:Ĥs<(ă9++X).length:=by rw[Ď,øY];ext c
  rw[_K.Fu (ă9++X) (Ĥs) hl (λd hd=>by
   rcases ùi hd with z|z
   .exact he d (þm z)
   .exact hX d z)]
  rw[List.getElem_append_left (by rw[øY];ext c),List.getElem_reverse];congr 1;ext c
def qC[3][1][11][111](P:Ěz)(hw:w<64)[9](hl:ĔV)(he:ďg)(hs:úf<ĕ)(hk:k=ĠK):
  _E.bM [Ġ,Ćw] s=.ok Ĕ6 (s++[.lst û8]):=by
 ext b;let⟨f,hf⟩:=NE (ĕ-1:Nat)
 have lf:f<ŋ:=by have:ĕ<=ŋ:=ĝ6;ext c
 have e1:=Ik aj;have h1:=BC (k:=k) P ø lf (ėz) none [];have eb:((ėz).map λp=>ġc)=es:=by
  rw[hk,BB b he,hf,<-hl];refine Il he λd hd=>?_;cases b with
  |true=>rw[Ī]at hd;rw[ţ hd];exact hs
  |false=>rw[ņ]at hd;cases hd
 rw[eb]at h1;have sh:=zF (k:=1) (e:=1) (st:=s) (show w<=1000 by ext c) ø ø;have sb:gb (.int Ĵf) þa s=.ok (.int ĉS) s:=by rw[uX,show Ĵf-1=ĉS by rw[hf];ext c]
 have dn:=UJ (st:=s) (j:=ćC-1) (k:=-1) ø ø ø ø;rw[show(ćC-1 - -1).toNat=aj by ext c,e1]at dn;ext a;have ln:(nV (ėz)).length<=1000000:=by unfold nV;rw[č,č,ęE];ext c
 unfold _E.bM
 ac_rfl
def Fw{N G r a:Nat}[350]:(ą7+r) &&& G=ģ1:=by have z:=_K.qB (a:=a) (c:=0) hr hG;rw[þV,Ť,łO,þV,Ť]at z;ext o
def not_and{N G r:Nat}[350]:Ŀs &&& G=0↔ģ1=G:=by
 ext D
 .ext hB;rw[Āx,ī8,ĺb]at hi;rw[Āx];by_cases hN:i<N
  .rw[decide_eq_true hN,Ĉa]at hi;cases hg:ĝG with
   |false=>rw[ĀB]
   |true=>
    rw[hg,ć9]at hi;simpa using hi
  .have g0:ĝG=false:=Nat.testBit_lt_two_pow (ľ hG (ĝ6));rw[g0,ĀB]
 .ext hB;rw[Āx]at hi;rw[Āx,ī8,ĺb];cases hg:ĝG with
  |false=>rw[ĀB]
  |true=>
   rw[hg,ć9]at hi;rw[hi];simp
def Im{N G r:Nat}{c x:Int}[350](hx:x=Ğa*c+(r:Int)):ýg x ýa=ýa ↔ģ1=G:=by
 by_cases h0:0<=c
 .let⟨a,rfl⟩:=İR h0;have e:x=((ą7+r:Nat):Int):=by rw[hx];ext bt
  rw[e,Ft,Fw hG hr];exact(λh=>by exact_mod_cast h,λh=>by rw[h])
 .let⟨a,ha⟩:=İR (show 0<=-c-1 by ext c);have hc:c = -ĉQ-1:=ø
  have mul:Ğa*c = -(((ą7:Nat):Int))-Ğa:=by rw[hc,ĐJ,ĈF,ĐI];ext bt
  have neg:¬ 0<=x:=ø
  have nt:(ĂR x).toNat=ą7+Ŀs:=čR
  unfold ýg;rw[decide_eq_false neg,decide_eq_true (Ďc G)];ext d;rw[nt,ú6,Nat.and_comm,Fw hG ø];rw[<-not_and hG hr];ext D
  .intro h;ext c
  .intro h;rw[h];ext c
open _K (dig)
theorem i_[11]:∀(ds X:þ),dig w ġu=ďH*ēN+ûn
 |[],X=>by show ēN=Ġl*ēN+0;rw[þV,łR,ĐL,ûg]
 |üT,X=>by
  show ĕ*dig w ġu+d=Ęl*ēN+Ċ_;ext mv
  rw[i_ ds X,û',e,Nat.mul_assoc,ďR]
theorem mU[11]:∀[248],ęk->ûn<ďH
 |[],_=>by show 0<Ġl;exact Ć3 _
 |üT,h=>by
  ext gk;have ih:=mU ds ĆX;ext mv
  show Ęy<Ęl;have z:ĕ*(ûn+1)<=ĕ*ďH:=č4 _ ih;rw[û',ĝJ]at z;ext c
def aaK{N a r G:Nat}(hr:r<āb)(hG:G<āb):(ą7+r) ||| G=ą7+(r ||| G):=by have z:=_K.pE (a:=a) (c:=0) hr hG;rw[þV,Ť,ĝK]at z;ext o
def L!{X σ:þ}[417]{G:Nat}(eG:G=þf):
  ýg ĥ_ ýa=ýa ↔įQ:=by
 ext b;ext ew;have hG:G<ďP:=by
  have z:=mU ķ4 λd h=>by rw[į_ h];exact hp
  rw[þi]at z;rw[eG];ext o
 have hk:=mU ds λd h=>Āw (hd d h) hp;let⟨R,hR⟩:=NE (Čb)
 ext a;have lR:R.length=ú_:=by rw[hR,č,Ļ0];ext c
 have hRl:dig ÿ R<ďP:=by
  have z:=mU (w:=v+1) R λd h=>by rw[hR]at h;let⟨z,hz,rfl⟩:=Ĕ h;have:=hd _ Ġi.1;ext c
  rw[lR]at z;ext o
 have g1:ĲW=ďP*dig ÿ X+Čt:=by rw[i_,aaK hk hG,eG,_K.guarded ds hd]
 have g2:=_K.taken ds fs hl hf;rw[<-hR]at g2;have x:ĥ_=((ďP:Nat):Int)*((dig ÿ X:Int)-(dig ÿ σ:Int))+((dig ÿ R:Nat):Int):=by
  rw[g1,i_,<-hl,g2,ĐJ]
  push_cast
  ext c
 rw[Im hG hRl x,eG,hR];exact _K.divides hl hd hf
def D2(G top k:Nat):Bool:=(ĸZ==ýa)
abbrev ac9:MB:=Ħv
def Qm{G top m l:Nat}{t:Int}(hm:s[m]?=some (.ins "Monic" (DZ k t l))):ac9 ĵf s=if Đ0=true then .rt (ġS) s else .nx ĵf s:=by
 have eq:jc (.int (ĸZ)) (āj) s=.ok (.bl (Đ0)) s:=rfl;cases hh:Đ0 with
 |true=>rw[hh]at eq;ext ae;ac_rfl
 |false=>rw[hh]at eq;rw[ņ];ac_rfl
def oj(G top:Nat):Nat->þ->ă4
 |_,[]=>none
 |i,k::ks=>if Đ0=true then đ' else oj G top Ē ks
theorem Fx{s:ai}{G top:Nat}{x1 x2:ć}[162]:∀(ms:ĻX)[5](y4 y5:ć),(ĥ3) ->
  ∃y4' y5',forL gd Ĺx ac9 (oZ i čw) ĵj s=(match oj G top i İH with
   |úi=>.rt ąH s
   |none=>.nx [ûD, x1, x2, ĉV, y4', y5'] s)
 |[],i,y4,y5,_=>(y4,y5,by
  ext iO)
 |p::ms,i,y4,y5,h=>by
  let⟨t,l,hm⟩:=h p ċ;have st:=Qm (G:=G) (top:=top) (i:=i) (x1:=x1) (x2:=x2) hm;let⟨z4,z5,ih⟩:=Fx hg ms Ē (some (ġS)) (some (.loc p.1)) λq hq=>h q (Ģ5);refine(z4,z5,?_);have an:hU [ý0,ýU] (į7) ĵj=some [ûD, x1, x2, ĉV, qI ùx, qL p.1]:=rfl;show forL gd _ _ (į7::oZ Ē čw) _ s=_;rw[Ą]
  ext fG
  rw[û4,an];ext d;rw[st];unfold oj;cases hh:D2 G top p.2 with
  |true=>rw[Ī,Ī]
  |false=>
   ext aM
def Io{G top M:Nat}{ms:ĻX}(hM:ĊJ=some čw)(h:ĥ3):
  _E.cL [āj,.int Āv,āA] s=.ok (match Ľ7 with|úi=>ĎH|none=>.cq) s:=by
 have f3:aN 3 Ĺn ĖF s=.nx [ûD, qI Āv, qL M, ĉV, qn, qn] s:=by
  have o:ao orV bo aM ĖF s=.ok (.int ĕt) s:=by show Ŝ (Ė (ćQ Āv ýa)) s=_;rw[L9]
  rw[zB o];rfl
 let⟨y4,y5,lp⟩:=Fx (gd:=λbP=>ar bP M=some čw) hM ms 0 none none h;show(aB (aN 3 _) _ ĖF s).fin=_;rw[dJ,f3,gP,dJ,y_,O_,ąt,aJ,UK hM,bI,E4,lp];cases Ľ7<;>rfl
theorem BD{s:ai}{n w:Nat}[255](hn:ùF=some (.ins "Packing" fs))(hl:Ān ĺ3=some Ă1)(w1:1<=w)(hw:w<=64):∀(j m:Nat)[54](ys:þ),j+m<=8 ->
  aY øf ĩ aU ĥH (ěb ľy) [x,ĐB] s ġA=.ok (nV (ys++ěb ĳ')) s
 |j,0,x,ys,_=>by show Ę6=.ok (nV (ys++[])) s;ext ad;exact Ĉ0
 |j,m+1,x,ys,hj=>by
  have h1:=BD hn hl w1 hw Ķ m ûJ Ŀo ø;have m1:=Bf (i:=üA) (j:=ù0) (st:=s) ø ø;have sb:gb (.int (üA*ù0+üA)) þa s=.ok (.int ((ģ_:Nat):Int)) s:=by rw[Int.natCast_sub (by have:0<=w*j:=ùM;ext c)];ext bt
  have sh:=zF (k:=1) (e:=1) (st:=s) (show ģ_<=1000 by have:w*j<=64*8:=ěl hw ø;ext c) ø ø;rw[show nV Ŀo=nV ys++[.int ((ĭ7:Nat):Int)] by ext dl,Į]at h1;exact fW trivial rfl rfl ŀ h1
theorem vz(v:Nat):∀[96],(Ŀy İw).sum=İd
 |0=>rfl
 |m+1=>by
  have e:∀(l:þ),(øU Į8).sum=ù6*(øU İw).sum:=by
   intro l
   induction l with
   |nil=>rfl
   |cons a l ih=>
    have z:2 ^ (ÿ*(a+1)+ÿ-1)=ù6*2 ^ (ÿ*a+ÿ-1):=by rw[<-ĝL];congr 1;rw[û'];ext c
    rw[Ą,Ą,ĀA,ĀA,ih,ĐL,ĐL,z,û']
  rw[ıE,Ą,ğ,ĀA];show 1*2 ^ (ÿ*0+ÿ-1)+(Ŀy Į8).sum=ù6*İd+Ŀ;rw[e,vz v m,þV,Ť,Nat.add_sub_cancel,ĐL,Ĉt]
def L?{n h:Nat}{d:Bool}(hn:ùF=some (ķ9))[9](hh:h<üv):
  ∃(v:Nat)(s':ai),_E.dz [Ġ,ùY,Ăy,.int Ĝj] s=ĐY/\ċl/\v<63/\Pk s' n d aj ÿ (Ħt)/\Xb n s s':=by
 ext b;let⟨w,hw⟩:=NE (Ĥn+40:Nat)
 have lw:=Qi hh;let⟨s2,cO⟩:=NE ((ź n (.ins "Packing" ĬV)).set n ın)
 ext a;have n2:s2[n]?=some ın:=by rw[cO];exact iZ (iZ hn)
 let⟨s3,jT⟩:=NE (ĊY n ĩm)
 have n3:s3[n]?=some ĩm:=by rw[jT];exact iZ n2
 have eq:Īe:=by
  rw[Rn];cases d with
  |true=>rw[ĪT]
  |false=>rw[Īf]
 have ad:cA (.int ((Ĥn:Nat):Int)) đq s2=.ok Ă1 s2:=by rw[hw];rfl
 have hg:=BD n3 ù4 ø ø 0 aj none [] ø;let⟨gs,hgs⟩:=NE ([]++(ćp 0 aj).map ĳ':þ)
 rw[<-hgs,Įj,<-cR]at hg;have lr:(dh 0 aj).length<=1000000:=Čr
 have sm:=zG (s:=s3++ě0) (.inr (_,rfl,br s3 _));have n4:=dM n3 ě0;have gv:gs.sum=āQ (w-1+1) (ŝ aj (2 ^ (w-1))):=by rw[<-vz (w-1) aj,hgs,Ž,<-ĳK,ęm ø]
 refine(w-1,(s3++ě0).set n (.ins "Packing" (jI "guards" (.int ((gs.sum:Nat):Int)) ĵF)),?_,ø,ø,?_,?_,λm c ne e=>?_)
 .subst jT cO;unfold _E.dz
  ac_rfl
 .unfold Pk;rw[<-gv,ęm ø];exact iZ n4
 .rw[Ŕ,Ď,jT,Ŕ,cO,Ŕ,Ŕ];ext c
 .have ne':n≠m:=ĝ';subst jT cO
  ac_rfl
abbrev Tm:=þ ×Int
abbrev dQ:=List (ùB)
def tM(t:Tm):au:=(.tup [ďO,Ă6])
def Fy(s:ai)(R:Nat)[52]:Prop:=(Ğc/\ďh)
def Xt.ac_[97]{rows:dQ}[501]:Fy s' R rows:=Ĩ_
theorem BE{R F:Nat}[6]{x0 x4:ć}:∀[52](s1:ai)(ts:ý)[41],ar s1 R=đ->R≠F->(∀r∈rows,s1[r.1]?=Ća/\r.1≠F)->s1[F]?=some (.lst ts)->üf+Ľo<=1000 ->
  ∃y',forL þs ød (bH Ěr) úk [x0, qL R, qL F, y, x4] s1=.nx [x0, qL R, qL F, y', x4] (ÿX F (.lst (ts++(Ă4).map tM)))
 |[],s1,ts,y,hi,_,_,hF,_=>(y,by show _=þc _ (ÿX F (.lst (ts++[])));rw[ń,zH hF];exact c! hi)
 |ýW,s1,ts,y,hi,nR,hr,hF,hl=>by
  ext b;rw[Ă9,Ď]at hl;ext fs;let⟨s2,cO⟩:=NE ĬW
  let⟨c,hc,bW⟩:=mT hi;have Cv:ar s2 R=đ:=bW s2 (by rw[cO];exact aV hc (λz=>nR øP));ext a;let⟨y',f⟩:=BE rows s2 ńU ċh Cv nR (λq m=>(by rw[cO];exact aV (đC).1 (λz=>(đC).2 øP),(đC).2)) (by rw[cO];exact ő (bu hF)) (by ext ak;ext w;ext c);rw[cO,ĜE,Į,<-Ŋ]at f;have b:bH Ěr ĭD s1=.nx ĭD ĬW:=ùO
  exact(y',dD hi b rfl f)
theorem BF{s:ai}[162]:∀(rows:ú)(x y:ć)(ys:þ),(∀r∈rows,r.1≠[]/\∀e∈r.1,ċH)->(∀e∈ys,ċH) ->
  ∃ms:þ,aY gd ăb aU ľ7 (ďU tM) ÿQ s ġA=.ok (nV ms) s/\ļE
 |[],x,y,ys,_,hy=>(ys,ji hg,hy)
 |ýW,x,y,ys,hr,hy=>by
  let⟨m,h1,h2⟩:=Qj Ĉp.1 Ĉp.2;let⟨ms,h3,h4⟩:=BF hg rows (some (ĿN)) (some (.int r.2)) ńX Ľu (λe me=>by
   rcases ùi me with me|me
   .exact hy e me
   .rw[ţ me];ext ai)
  rw[show nV ńX=nV ys++[.int āM] by ext dl]at h3;exact(ms,fW hg rfl rfl ŀ h3,h4)
def sN{rows:dQ}{d:Bool}[501](G:∀t∈Ă4,úc/\∀e∈t.1,ċH)[12][9](hl:Ľo<=1000):
  ∃(n cU v:Nat)(s':ai),_E.gK [ùY,þQ] s=.ok Ħ s'/\Ĵ/\Pk s' n d cU ÿ ĬS/\ē<=n/\ċl/\v<63/\cU<=8/\(cU=aj\/cU=1/\Ă4=[]):=by
 ext b;ext nh
 let⟨Ts,hTs⟩:=NE (Ă4)
 ext bN
 ext a;ext W
 have nR:R≠F:=by have:=pF h.1;ext c
 have aF:s1[F]?=đd:=by rw[b_,hF];exact UN s _
 have h1:=x1.ac_ h;let⟨y,f2⟩:=BE rows s1 [] none h1.1 nR (λr m=>(h1.2 r m,by have:=bu ńA;ext c)) aF čV;ext b;rw[<-hTs]at f2 G hl;let⟨s2,cO⟩:=NE (ÿX F (.lst ([]++ĠC)))
 rw[<-cO]at f2;ext a;have aF2:s2[F]?=some (.lst (ĠC)):=by rw[cO];exact ő (bu aF)
 have x2:ĉ5:=by rw[cO];exact x1.set ø
 ext b;have iF:=a! aF2;obtain⟨cU,f3,l3,e3⟩:∃cU:Nat,Oo ĬT īG cG [qS Ċs, qL R, qL F, y, qn] s2=.ok (.int (cU:Int)) s2/\cU<=8/\(cU=aj\/cU=1/\Ts=[]):=by
  cases Ts with
  |nil=>exact(1,ùO,øi,.inr ÿe)
  |cons r rows=>
   have gt:uI (.int (((ýW).map tM).length:Int)) ùg s2=.ok øz s2:=by rw[rO,decide_eq_true (by rw[Ą,ă];ext c)]
   have ln:c7 [ĿN] s2=.ok āL s2:=by ext fS;rw[č,(G r ċ).1]
   exact(aj,ùO,hm,üw)
 ext a;let⟨ms,c1,c2⟩:=BF (gd:=λay=>ar ay F=some (ĠC)) iF Ts none none [] (λr m=>(λz=>by have:=(G r m).1;rw[z]at this;ext gK;ext c,(G r m).2)) Ľt;ext b;let⟨s3,jT⟩:=NE (s2++[ą (nV ms)])
 let⟨hh,k1,k2⟩:=maxD_mem c2;have mx:HM ĝc ùg s3=.ok (.int (hh:Int)) s3:=by rw[Pj (by rw[<-fV,jT];exact br s2 _),k1]
 ext a;have x3:Xt s s3:=by rw[jT];exact üp ċf
 let⟨v,s4,i1,i2,i3,i4,i5⟩:=L? (s:=s3++[ķ9]) (đP) l3 k2;refine(øN,cU,v,s4,?_,?_,i4,x3.1,i2,i3,l3,by rw[<-hTs];exact e3)
 .have h3:=h1.1;subst b_ hF jT;unfold _E.gK
  ac_rfl
 .have lx:(s3++[aH.ins "Packing" []]).length=øN+1:=by ext ak;rfl
  refine(by ext dT;have:=i5.1;ext c,λn c e=>i5.2 n c ĉb (dM (x3.2 n c e) _));ext bz;ext dT;ext c
open e _I
variable {rest row:List _I.Tm}
variable {rows rowsP:_I.dQ}
namespace _I
open PySem.Spec _A _D
open PyProof.Rows hiding St kindOf
open _K (dig)
def jz[46][59]:Prop:=(ĔV/\ĚR)
def jz.lt[214][230]:∀e∈es,e<Ŀ:=λe m=>ľ (h.2 e m) (ü8 ø hv)
def jz.sum{aj v:Nat}[214][9][231]:úf<Ŀ:=by
 have:∀es:þ,(ĚR)->úf<=ù1*üv:=by
  intro es h
  induction es with
  |nil=>ext as
  |cons e es ih=>
   ext hS;ext c
 have h1:=this es h.2;rw[h.1]at h1;have h3:2 ^ 23<=Ŀ:=ü8 ø hv;by_cases z:aj*üv<2 ^ 23
 .lia
 ·-- II sum is less ae7 aj*2^20 where there is a place
  cases es with
  |nil=>simp;exact Ć3 v
  |cons e es=>
   have g:=this es λx m=>h.2 x ŕ;have g1:=h.2 e ċ;have l:=h.1;rw[ă]at l;rw[ĀA];ext c
def ig[10][59]:þ:=(ă9++İ_)
def FA[1][214][9][231]:∀d∈ig b es,d<Ŀ:=λd md=>by
 rcases ùi md with z|z
 .exact h.lt ø d (þm z)
 .cases b with
  |true=>rw[Ī]at z;rw[ţ z];ext oq
  |false=>rw[ņ]at z;cases z
def fX[1][214][230]:aC b v es=dig v ńE:=BB b (h.lt hv)
def ik[1][214](k:jz aj fs)[9][231](e:aC b v es=aC b v fs):es=fs:=by rw[fX h ø,fX k ø]at e;have z:=_K.Fv ńE (ig b fs) (by unfold ig;cases b<;>simp[h.1,k.1]) (FA h hm hv) (FA k hm hv) e;have:=List.append_inj_left z (by rw[øY,øY,h.1,k.1]);exact List.reverse_inj.mp this
theorem FC[11]:∀[362],ē6->ĵW=ûn+Ģp
 |[],[],_=>rfl
 |üT,ā5,h=>by show ĕ*ĵW+(d+f)=Ċ_+(ĕ*Ģp+f);rw[FC ds fs ĄW,û'];ext c
def dvd(f e:þ):Bool:=((e.zip f).all λz=>decide (z.2<=z.1))
def nh[236]:þ:=(Ď6 (· - ·) e f)
def bN[236]:þ:=(Ď6 ěM e f)
theorem FD:∀[139],ùT->Ċk->bN ğ8 f=e
 |[],[],_,_=>rfl
 |x::e,y::f,h,d=>by have d':(decide (y<=x)&&ăZ)=true:=d;rw[úx,decide_eq_true_iff]at d';show(x-y+y)::bN ğ8 f=x::e;rw[FD ĄW d'.2,ęm d'.1]
def gM[139]:(Ąc).length=ņo:=Ę2
def Ma[139]:(nh e f).length=ņo:=Ę2
theorem BG:∀[139],ùT->ń6=ā4+ą1
 |[],[],_=>rfl
 |x::e,y::f,h=>by show(x+y)+ń6=(x+ā4)+(y+ą1);rw[BG ĄW];ext c
theorem BH:∀[139],ùT->(Ąc).reverse=bN ĠR ĠT
 |[],[],_=>rfl
 |x::e,y::f,h=>by show(łb).reverse=Ď6 ěM (x::e).reverse (y::f).reverse;rw[ú9,ú9,ú9,BH ĄW,ĴH (by rw[øY,øY,Ău h])];rfl
def Qn[273]:jz aj ğ8:=by refine(by rw[Ma,h.1,k.1,ĀS],λd md=>?_);let⟨i,hi,rfl⟩:=č1 md;unfold nh at hi⊢;rw[ĳI];have:=h.2 _ (Ăv (n:=i) (by rw[Ę2]at hi;ext c));ext c
def Qo[1][273][230]:D2 Ļg (Đ5) (aC b ÿ f)=ăZ:=by
 ext fc
 have z:=L! (X:=if øR then[ā4] else[]) (σ:=if øR then[ą1] else[]) ĳo (λd md=>h.lt hv d (þm md)) (λd md=>k.lt hv d (þm md)) (by rw[øY,h.1]);have k1:=fX (b:=b) h (v:=v+1) ø;have k2:=fX (b:=b) k (v:=v+1) ø;unfold ig at k1 k2;rw[<-k1,<-k2]at z;unfold D2;rw[ćc,beq_iff_eq,z];unfold dvd;rw[Ĺ3,_F.E! l];ext D
 .exact λq x mx=>decide_eq_true (q x (List.mem_reverse.mpr mx))
 .exact λq x mx=>of_decide_eq_true (q x (þm mx))
def pG[40]:Nat->ûs->ă4
 |_,[]=>none
 |i,ā5=>if Ċk then đ' else pG e Ē fs
theorem x_[1]{aj v:Nat}[13](h:ās)[230]:∀(fs:ûs)[5],(∀f∈fs,ģU)->oj Ļg (Đ5) i (ĸF)=Ġ5
 |[],i,_=>rfl
 |ā5,i,hf=>by rw[Ą];unfold oj pG;rw[Qo h ŁL hv,x_ h hv fs Ē λg m=>hf g ŕ]
theorem x![13]:∀(fs:ûs)[5]{j:Nat},Ġ5=úi->i<=j/\∃f,fs[j-i]?=some f/\Ċk
 |[],i,j,h=>úa
 |ā5,i,j,h=>by
  unfold pG at h;by_cases d:Ċk
  .rw[Ģw]at h;ext e;exact(ł,f,by rw[úu];rfl,d)
  .rw[Ģv]at h;let⟨h1,g,h2,h3⟩:=x! fs Ē h;refine(ø,g,?_,h3);rw[Į3,Ăz];ext ai
theorem x?[13]:∀(fs:ûs)[5],Ġ5=none↔∀f∈fs,ăZ=false
 |[],i=>(λ_ f m=>(ùt),ù')
 |ā5,i=>by
  unfold pG;by_cases d:Ċk
  .rw[Ģw];exact(λz=>(Ćj),λz=>by rw[z f ċ]at d;cases d)
  .rw[Ģv,x? fs Ē];ext D
   .intro z g mg;rcases ŏ mg with rfl|mg
    .exact Ęm d
    .exact z g mg
   .exact λz g mg=>z g (š _ mg)
def ndC:aH->Prop
 |.dK _=>False
 |.fd _=>False
 |_=>True
def ED(s:ai)(z:Nat):Prop:=(Ăg=ďW\/Ăg=some (.fd []))
structure Xd[106]:Prop where
 len:û0
 at_:İz
 ed:∀z,ED s z->ED s' z
def Xt.d[97]:Xd s s':=(x.1,Ĵa,λz h=>ĊO (λh=>.inl Đx) λh=>.inr Đx)
def pH[3][190]:∃c,ÿC/\ndC c/\ĵw:=by ext mL;refine(c,h1,?_,h2);ext dI;rw[h1]at h;cases c<;>first|ext bL|ext e
def Pk.to[3][1][11](h:Ěz)(x:Xd s s'):Pk s' n b aj w g:=ā' _ _ trivial h
def lV(l:þ):ý:=(øU ž)
abbrev moE:ME:=ĥX
def cb[10][84](t:Tm):bF×au:=(%[.inl þD|Ă6])
def qD[10][84](t:Tm):au:=(.tup [Ąj,Ă6])
theorem zI[1][11]:∀[145],rX āX=some ăo
 |[]=>rfl
 |t::ts=>by show(rX āX).map (%[ûv þD|Ė t.2]:: ·)=_;rw[zI ts];rfl
def zJ[ďs]{l:úr}{k:κ}{v:au}(h:k ∉ Ĥg):m_ l k v=l++ċv:=by unfold m_;rw[if_neg];intro z;let⟨x,hx,e⟩:=ĴE z;exact h (ăd (x,hx,Ę_))
theorem qE:∀(l a:ùS),((a++l).map ď).Nodup->ic l a=a++l
 |[],a,_=>by ext ad;rfl
 |(k,v)::l,a,h=>by
  show ic l (m_ a k v)=_;have z:k ∉ ąX ď:=λm=>by rw[Ŋ,List.nodup_append]at h;exact h.2.2 k m k ċ rfl
  rw[zJ z,qE l (a++ċv) (by rw[Į];ext j),Į];rfl
abbrev toE:ME:=ħS
theorem FE{s:ai}[3][1]{aj w g:Nat}[162][122]:∀[332],(ĪD) ->
  aY gd ăb aU toE ĉr ł9 s ys=.ok (ys++Čy) s
 |[],x,y,ys,_=>by rw[Ĺ,Ĺ,ń];exact ji hg
 |t::ts,x,y,ys,h=>by have hk:=DY (v:=ďO) P hw út ńz.1 ńz.2;have ih:=FE hg P hw ts (some (ďO)) Ğq (ys++[qD b w t]) ľv;rw[Į]at ih;unfold Pk at P;ext jB
def pI{n q:Nat}[1][11][188][122](hq:ā9=ħc)(h:ĪD)[325](hl:üf<=1000):
  _E.cK [Ġ,üB] s=.ok (.loc (Ăe)) (s++[.lst āX,.dK ăo]):=by
 have iq:=a! hq;have cp:b9 2 [0] üz þG aU toE ĠJ s=.ok āS (s++[.lst āX]):=by rw[tR,kl,show bo ĠJ s=.ok ąG s from rfl,aJ,mQ iq,aJ,y!,if_pos (ĭb)];rw[show sH 2 [0] [some (ž n),þF]=[qn, qn, qL n]from rfl,FE iq P hw ts none none [] h,aJ];rfl
 have pa:ĸI:=by
  ext hc
  ext hE;ext c
 show(bb (ax Bt (ag (b9 2 [0] üz þG aU toE) aw)) ĠJ s).fin=_;rw[DX (v:=.loc (Ăe)) (by
  rw[c_ (jN cp)];show(match ar (ěr) ē with|đ=>(match rX us with|Ċ5=>Ŝ (ž (ěr).length) (ěr++[aH.dK ĞI])|none=>bR.bad)|none=>bR.bad)=_;rw[br];ext d;rw[zI];ext d;rw[pa,Ď,Į];rfl)]
 rfl
structure Xn[106]:Prop where
 len:û0
 at_:İz
def Xt.n{s s':ai}[97]:úd:=(x.1,Ĵa)
def Xn.refl:Xn s s:=Xt.refl.n
def Xn.trans(a:Xn s s1)(b:Xn s1 s2):Xn s s2:=(ļt,λn c h e=>b.at_ n c h (a.at_ n c h e))
def Xn.items(x:úd)[3][190]:Ĉg:=by let⟨c,h1,h2,h3⟩:=pH h;exact h3 s' (ā' _ _ h2 h1)
def Xn.set[3][99]{c:aH}(h:ùF=ýv):Xn s ń1:=(ĸu,λm d hd e=>aV e (λz=>by rw[<-z,h]at e;ext g;exact hd))
theorem ya{t:MT}[92][382]:
  ∀[7](Z:ùA)[2],ĊE<n->ąl->∃r,ĆP/\Q r
 |0,Z,st,h,_=>Ńe
 |n+1,Z,st,h,hp=>by
  unfold fk;rcases hs Z st hp with⟨aK,e,q⟩|⟨aK,v,ay,e,hb,q⟩|⟨aK,bn,ay,e,hb,p',lt⟩
  .rw[e];exact ńq
  .rw[e];ext d;rw[hb];exact ńq
  .rw[e];ext d;let⟨r,e2,q2⟩:=ya P M Q hs n bn ay ø p';rw[hb];exact(r,e2,q2)
def Ip{t:MT}[382](Z:ùA)[2](hp:ąl):∃r,ěq=r/\Q r:=by let⟨r,e,q⟩:=ya P M Q hs (ĊE+1) Z st ĕa hp;exact(r,xH e,q)
def qF(q:ŧ)[5](t:Tm):ŧ:=(λj=>if j=i then q i++[t]else q j)
def ac![81](t:Tm):ú:=(T.filter λu=>decide (u.1≠t.1))
section
variable[1][11]
def Mb[81]:ı0=some (úD λt=>þD):=by
 induction T with
 |nil=>rfl
 |cons t T ih=>show(ı0).map (þD:: ·)=_;ext cj
def Qp[19]{t:Tm}(h:∀u∈T,ýj=ùm->ģ7):rT ýC (.inl þD)=(ac! T t).map ûR:=by
 unfold rT ac!;rw[ĻY];congr 1;ext ld;show decide ((cb b w u).1≠_)=_;ext fR;ext D
 .intro z y;refine z ?_;unfold cb;rw[y]
 .intro z y;ext ob;exact z (h u mu ø)
open e
def Xz(L:Nat)[252][106]:Prop:=(∀[7](c:aH),n≠L->n ∉ zs->ÿ9)
section
variable[1][243]{mo:List Mo}
def zK{L:Nat}[19][11][85]{m:ME}(h:ĘO)(hm:üQ=.ok āR s):bx (ao uI (ax u_ ńu) bp) Z s=.ok (decide (T≠[])) s:=by
 have e:ax u_ ńu Z s=.ok (.int ń') s:=by rw[c_ (jN hm)];unfold u_;ext d;rw[show gu s L=some ýC by ext dB];show Ŝ (Ė ((ē').length:Int)) s=_;ext w
 refine jy ?_;rw[iY e rfl];show Ŝ (au.bl (decide (üC<ń'))) s=_;congr 2;cases T<;>simp
open e
structure Xr[106]:Prop where
 n:úd
 dk:ĵo
def pJ{z:Nat}[99](h:ĎM):Ăg=ýv\/ķh:=by
 unfold gu at h;ext f
 .ext bC;ext e;exact ÿF
 .ext bC;ext e;exact .inr e
 ext aj
def mV{z:Nat}[99](h:Ăg=ýv):ĎM:=by ext dB
def tY{z:Nat}[99](h:ķh):ĎM:=by ext dB
def Xt.r[97]:ĉ4:=(x.n,λz l h=>(pJ h).elim (λh=>mV Đx) λh=>tY Đx)
def Xr.trans(a:Xr s s1)(b:Xr s1 s2):Xr s s2:=(a.n.trans b.n,ĬK)
def Xr.refl:Xr s s:=Xt.refl.r
def Mc[76]{m:ME}[85][472](h:gu s d=āt):∃s0,lK m Z s=.ok ĉa s0/\s0[d]?=þP/\Xr s s0/\∀[96](c:aH),m≠d->s[m]?=ň->s0[m]?=ň:=by
 unfold lK;rw[hm];show ∃s0,(match s[d]? with|úJ=>Ŝ ĉa (ź d ĉm)|þP=>.ok ĉa s|_=>.bad)=_/\_;rcases pJ h with e|e
 .rw[e];refine(_,rfl,ő (bu e),(ąp e,λz l hz=>?_),λm c hm h=>aV h (øv hm));by_cases y:d=z
  .rw[<-y]at hz⊢;rw[h]at hz;ext au;exact tY (ő (bu e))
  .ext no
   .exact mV (aV q y)
   .exact tY (aV q y)
 .rw[e];exact(_,rfl,e,Xr.refl,Ń5)
def Me[1][11][145]:itK ăo=Čy:=by unfold itK;ext aT
abbrev muE:ME:=ĨJ
def kJ(p bk:Int)(t:Tm):Tm:=(%[t.1|t.2*bk % p])
theorem FF[1][11]{s:ai}{p bk:Int}[162][25][348]:∀[332],
  aY gd ăb aU muE āX [x, y, qI bk, qI p] s ys=.ok (ys++Ėr Ĉ9) s
 |[],x,y,ys=>by rw[Ĺ,Ĺ,Ĺ,ń];exact ji hg
 |t::ts,x,y,ys=>by
  have m1:=mul_r (i:=t.2) (st:=s) h1 h2;have md:cw (.int (t.2*bk)) ċg s=.ok (ķ_) s:=ĽX
  have ih:=FF (b:=b) (w:=w) hg hp h1 h2 ts (some (Ąj)) Ğq (ys++[.tup [Ąj,ķ_]]);rw[Į]at ih;ext jB
def aaL[1][11][188][325]:ĸI:=by
 ext hc
 ext hE;ext c
def iE[59]:Vb:=(ğk)
def Mf(t:Tm):Vb:=(āp++[t.2])
def aaM(t:Tm):Cy true (Mf t)=tM t:=by unfold Cy Mf tM;rw[Ī,ĳH,ėB,ĳJ];rw[fV];rfl
abbrev soE:ME:=ħb
theorem FG{n d:Nat}[1]{aj v g:Nat}{aA:ùS}[215][9]:∀[145](s:ai)(x y:ć)(ys:ý),s[d]?=þP->ćq->(Ĝa) ->
  ∃s',aY (λbP=>bP[d]?=þP) ăb aU soE (øK ćY) ł9 s ys=.ok (ys++øK tM) s'/\Ĵ
 |[],s,x,y,ys,hd,_,_=>(s,by rw[Ĺ,Ĺ,ń];exact ji hd,úP)
 |t::ts,s,x,y,ys,hd,P,h=>by have ft:=h t ċ;have ex:=qC (es:=t.1) P ø hm ft.1 (ft.lt ø) (ft.sum hm ø) rfl;have x1:Xt s (s++[ą ğ7]):=Ās;let⟨s',e',x'⟩:=FG hv v1 hm ts _ (some ęv) Ğq (ys++[tM t]) (x1.2 _ _ hd) Ľc ľv;rw[Į]at e';unfold Pk at P;exact(s',fW (v:=ÿW) hd rfl rfl ŀ e',úB x')
def Mg{rs:ú}(hl:ŀ5)(f:ŀM):øB (ý3 Mf):=by unfold øB at f⊢;rw[ęF]at f⊢;refine Ād (λ{a c}ma mc h=>?_) f;unfold Mf;rw[_F.qy (by unfold iE;rw[č,č,hl a ma,hl c mc]),if_neg (λz=>by rw[z,_F.d6]at h;ext e)];ext j
open e _I
variable [3]
variable {d:Bool}
namespace _I
open PySem.Spec _A _D _K
open PyProof.Rows hiding St kindOf
def vA{a c:þ}(h:iE a=iE c):a=c:=by
 ext hi
 rw[<-back a,h,back]
theorem zL[11]:∀[236],ùT->(∀x∈e,x<ĕ)->(∀x∈f,x<ĕ)->(decide (dig w ĠR<dig w ĠT))=Ň āx Ĕd
 |[],[],_,_,_=>rfl
 |x::e,y::f,h,h1,h2=>by
  have l:=Ău h;have ih:=zL e f l Ĵx ļC;have d1:=mU ĠR λz m=>h1 z ķ5;have d2:=mU ĠT λz m=>h2 z ķ5;rw[øY]at d1 d2;rw[<-l]at d2;have s1:∀z:Nat,dig w [z]=z:=λz=>by show ĕ*0+z=z;ext c
  rw[ú9,ú9,i_,i_,øY,øY,s1,s1,<-l];show _=if ýS=ĄA then Ň āx Ĕd else ĺD
  let⟨N,hN⟩:=NE (2 ^ (w*ùw))
  rw[<-hN]at d1 d2⊢;by_cases z:x=y
  .rw[øj,z,<-ih];ext fR;ext c
  .rw[Ŗ,decide_eq_decide];ext D
   .intro q;rcases øI x y with y'|y'
    .lia
    .have:N*(y+1)<=N*x:=č4 _ ø;rw[û']at this;ext c
   .intro q;have:N*(x+1)<=N*y:=č4 _ ø;rw[û']at this;ext c
def zM[10][40]:Nat:=(if øR then ā4 else 0)
def lZ[10][40]:Vb:=(ď6::iE e)
def vB[1][273][9][231]:decide (Ģg<Ģh)=Ň (lZ b e) (lZ b f):=by
 ext fc
 rw[fX h ø,fX k ø];unfold ig lZ zM;cases b with
 |true=>
  have z:=zL (ā4::e) (ą1::f) (Ěj) (λx m=>by
   ext ax
   .ext oq
   .exact h.lt ø x m) (λx m=>by
   ext ax
   .exact k.sum hm hv
   .exact k.lt ø x m)
  rw[ú9,ú9]at z;ext o
 |false=>
  rw[ņ,ņ,ņ,ņ,ń,ń];exact zL e f l (h.lt ø) (k.lt ø)
def rkT[10][40]:au:=(.tup [.int ď6,Āq])
def tZ[13]:ā3 [ùY,Āq] s=.ok (rkT d e) s:=by
 have eq:Īe:=by
  rw[Rn];cases d with
  |true=>rw[ĪT]
  |false=>rw[Īf]
 have sm:=zG (s:=s) (v:=Āq) út;unfold ā3;cases d<;>ac_rfl
open PySem.Spec _A _D
abbrev ac?:ME:=Ęa
abbrev ac':MB:=dP (bx (ao gC ac? bp)) (bH (fM bD gf (ag (cH (ag fI (ag ac? aw))) aw))) aT
def ada(A:ş):((ÿ0 eD).map Ĩm)=ıA:=by rw[ğ,ğ];ext fQ;show ý7 ((iK t.1).map jw)=ĔB;unfold iK jv;ext aT
open e _I
namespace _L
open PySem.Spec _A _D _I
open PyProof.Rows hiding St kindOf
def gY{k:Int}[8](h:ſ=ĀM)(k0:0<=k)(k1:k<=1000)[217]:
  ∃o,üP [Ġ,ÿL] st=.ok Ēf (st++üS)/\0<=o:=by
 let⟨s1,b_⟩:=NE (st++üg)
 have h1:ģK=ĀM:=by rw[b_];exact(Ās).items h
 have hn:ar s1 øu=ûC:=by rw[b_];exact br st _
 obtain⟨c,f2⟩:∃c:Int,dP (Ďv) ĪX aT [qL n, qI k, qI 0, qn] st=.nx [qL n, qI k, qI c, qn] s1:=by
  ext aN;cases ns with
  |nil=>exact(0,ùO)
  |cons a ns=>
   have q:=gL (m:=īB) įd k;let⟨c,hc⟩:=P' (ns:=a::ns) q.1 (by rw[<-č (f:=au.int)];exact q.2);have md:=fP (i:=k) (j:=īB) (st:=st++üg) įd;exact(c,ùO)
 have q1:=gL (m:=2147483647) ø (Ěk);generalize hx:(Ěk).fmod 2147483647=x at q1;have q2:=gL (m:=2147483629) ø (x*x);have q3:=gL (m:=2147483647) ø (ġj);generalize hy:(ġj).fmod 2147483647=y at q3;have q4:=gL (m:=2147483629) ø (y*y);refine(y*2147483629+(y*y).fmod 2147483629,?_,ø);have m1:=mul_r (i:=c) (j:=48271) (st:=s1) ø ø;have m2:=mul_r (i:=k+1) (j:=7919) (st:=s1) ø ø;have d1:cw (.int (Ěk)) Ďk s1=.ok ğT s1:=by rw[ÿI,hx]
 have m3:=Bf (i:=x) (j:=x) (st:=s1) ø ø;have m4:=mul_r (i:=ĦO) (j:=48271) (st:=s1) ø ø;have d4:cw (.int (ġj)) Ďk s1=.ok (.int y) s1:=by rw[ÿI,hy]
 have m5:=mul_r (i:=y) (j:=2147483629) (st:=s1) ø ø;have m6:=Bf (i:=y) (j:=y) (st:=s1) ø ø;rw[<-b_];unfold üP
 ac_rfl
def adb[85]{l mi:ME}{q:Nat}{as:ř}{f:ĔW}[29](h1:l Z s=.ok ąG s1)(h2:mi Z s1=.ok ļ s2)(hq:ar s2 q=some ĝo)[496]:
  ∃a∈as,ao aQ l mi Z s=.ok (f a) s2:=by
 ext b;obtain⟨j,hj⟩:∃j:Nat,ù0=i:=(ĉ7,ø)
 have lj:j<ĜN:=ø
 ext a;refine(as[j],Ăv lj,?_);rw[iY h1 h2,<-hj];exact og hq (g? (by rw[ĭ,ħ lj];rfl))
def aaN[85]{a:MA}{mi:ME}{as:ř}{f:ĔW}[29](h1:ùI=.ok ĝo s)(h2:∀s,mi Z s=.ok ļ s)(hl:ĜN<=1000)[496]:
  ∃x∈as,ao aQ (bL a) mi Z s=.ok (f x) (s++[.lst ĝo]):=
 adb (DV h1 (č5)) (h2 _) (br s _) i0 i1
abbrev iN[7]:au:=ġR
def FH:Vb:=([7,3,2,5,13,97,11,17,19,23,29,31,37,41,43,47,53,59,61,67,71,73,79,83,89])
abbrev FI:ý:=[.int 7,ùC,øc,.int 5,.int 13,.int 97,.int 11,.int 17,.int 19,.int 23,.int 29,.int 31,.int 37,.int 41,.int 43,.int 47,.int 53,.int 59,.int 61,.int 67,.int 71,.int 73,.int 79,.int 83,.int 89]
def Iq:∀p∈FH,ÿh/\2<=p/\p<=97:=Ĳ
def gE[34][179](aj top t c:Nat):au:=(.tup [øx,ùY,iN aj,iN top,iN t,iN c])
def yc[62](h:ĈX)[217]:
  ∃(p:Int)(d:Bool)(aj top t c:Nat)(s':ai),_E.jK [ý5] s=.ok (þA) s'/\Ĵ/\ÿh/\2<=p/\p<=97/\1<=aj/\aj<=3/\top<=8/\t<=8:=by
 let⟨s1,b_⟩:=NE (s++[ą FI])
 ext W
 let⟨cell,c1,c0⟩:=gY (k:=1) (ûp h) ø ø hl;ext eV
 have qk:=gL (m:=8) ø (cell.fdiv 2);have qd:=gL (m:=2) ø cell;let⟨vd,iv,f4⟩:=rY (us:=İ1) qd.1 qd.2;let⟨d,_,rfl⟩:=Ĕ (show vd∈[false,true].map λd=>au.str Ċs from iv);let⟨s3,jT⟩:=NE (s2++[ą İ1])
 let⟨vm,iv,f5⟩:=rY (us:=īs) qk.1 qk.2;let⟨aj,im,rfl⟩:=Ĕ (show vm∈[2,1,2,3,2,1,3,1].map iN from iv);let⟨s4,qG⟩:=NE (s3++[ą īs])
 let⟨vt,iv,f6⟩:=rY (us:=ĩE) qk.1 qk.2;let⟨top,it,rfl⟩:=Ĕ (show vt∈[2,4,2,1,1,8,1,3].map iN from iv);let⟨s5,ni⟩:=NE (s4++[ą ĩE])
 let⟨v7,iv,f7⟩:=rY (us:=ĨT) qk.1 qk.2;let⟨t,i7,rfl⟩:=Ĕ (show v7∈[3,4,2,2,4,8,2,3].map iN from iv);let⟨s6,v_⟩:=NE (s5++[ą ĨT])
 have x6:Xt s1 s6:=by subst cO jT qG ni v_;ac_rfl
 let⟨o0,c3,c4⟩:=gY (k:=0) ((úB x6).items h) ø ø hl;have q0:=gL (m:=25) ø o0;let⟨vp,iv,f8⟩:=rY (us:=FI) q0.1 q0.2;let⟨p,ip,rfl⟩:=Ĕ (show vp∈FH.map Ė from iv);let⟨vc,iv,f9⟩:=rY (us:=Īw) qk.1 qk.2;let⟨c,_,rfl⟩:=Ĕ (show vc∈[2,3,3,3,2,2,3,4].map iN from iv);let⟨p1,p2,p3⟩:=Iq p ip;have f8':=(aeK (ēb (üK üS)) (by rw[<-b_]at f8;exact f8))
 refine(p,d,aj,top,t,c,_,?_,úB (ēb ((üK üS).trans (üK [.lst Īw]))),p1,p2,p3,(show ∀m∈ĸk,1<=m by decide) _ im,(show ∀m∈ĸk,m<=3 by decide) _ im,(show ∀m∈[2,4,2,1,1,8,1,3],m<=8 by decide) _ it,(show ∀m∈[3,4,2,2,4,8,2,3],m<=8 by decide) _ i7);subst b_ cO jT qG ni v_;unfold _E.jK
 ac_rfl
abbrev teB:MB:=ĥi
section
variable[129]
theorem FJ{E:Nat}[282]:∀[96][37](x:Int)[59](s:ai)[41],ĉ=m->s[E]?=some (.lst û8)->ĳA->ù1+m<=100 ->
  ∃(x':Int)(M?:þ)(s':ai)(y':ć),forL øf ød teB us [qI x, ż, qL E, y] s=.nx [qI x', ż, qL E, y'] s'/\s'[E]?=some (.lst (nV M?))/\M?.length=ù1+m/\(∀e∈M?,e<=top)/\Xb E s s'
 |0,[],x,es,s,y,_,hE,he,_=>(x,es,s,y,ğD,hE,rfl,he,ł,Ĝ6)
 |0,ı,_,_,_,_,h,_,_,_=>úa
 |m+1,[],_,_,_,_,h,_,_,_=>úa
 |m+1,ı,x,es,s,y,hu,hE,he,hl=>by
  have q:=gL (m:=Āv+1) ø x;obtain⟨e,hev⟩:∃e:Nat,þC=x.fmod đE:=((x.fmod đE).toNat,ø)
  have en:nV ńv=ÿ3++[ÿk]:=by ext dl
  let⟨s1,b_⟩:=NE (ź E (.lst (ÿ3++[ÿk])))
  have md:cw ğT (.int đE) s=.ok (ÿk) s:=by rw[ÿI,hev]
  have dv:=div_ii (i:=x) (j:=Āv+1) (st:=s1) (acH ø ø);have ln:(ÿ3).length<1000000:=by unfold nV;ext w;ext c
  ext b;let⟨x',M?,s2,y',f2,h2,l2,k2,xb⟩:=FJ ht m us Ľb ńv s1 āU ĘD (by rw[b_,en];exact iZ hE) (λz hz=>by
   rcases ùi hz with hz|hz
   .exact he z hz
   .rw[ţ hz];ext c) (by ext ak;show ù1+1+m<=100;ext c)
  ext a;refine(x',M?,s2,y',?_,h2,by rw[l2];simp only[Ď,ă,ĳ];ext c,k2,(by have:=xb.1;rw[b_,Ŕ]at this;ext n,λi c' hi e'=>xb.2 i c' hi (by rw[b_];exact aV e' (λz=>hi øP))));have b3:teB [qI x, ż, qL E, Ę] s=.nx [qI Ľb, ż, qL E, Ę] s1:=by ext aN;ac_rfl
  exact dD trivial b3 rfl f2
def zN{x:Int}[282][58][87]:
  ∃(es:þ)(k:Int)(s':ai),_E.jJ [.int x,þA] s=.ok (.tup [ăQ,ÿL]) s'/\Ĵ/\ĔV/\ĳA/\1<=k/\k<p:=by
 ext bN
 let⟨x',es,s2,y,f,h2,l2,k2,xb⟩:=FJ ht aj (dh 0 aj) x [] s1 none (by unfold dh;rw[č,ęE]) ČL Ľt čV;have q:=gL (m:=p-1) ø x';refine(es,1+x'.fmod (p-1),s2,?_,(by have:=xb.1;rw[b_,Ď]at this;ext c,λi c' e=>xb.2 i c' ĕi (by rw[b_];exact dM e _)),ĳX,k2,ø,ø);ext aN;unfold _E.jJ
 ac_rfl
open e
open e _L
namespace _I
open PySem.Spec _A _D
open PyProof.Rows hiding St kindOf
structure Xq(S:Nat)[106]:Prop where
 len:û0
 at_:∀[7](c:aH),n≠S->ndC c->ÿ9
 dk:ĵo
def Xr.q[62](x:ĉ4):ĠH:=(x.n.len,λn c _ h e=>x.n.at_ n c h e,x.dk)
def Xq.trans[62](a:Xq S s s1)(b:Xq S s1 s2):Xq S s s2:=(ļt,λn c k h e=>b.at_ n c k h (a.at_ n c k h e),ĬK)
def Xq.set[62]{c:aH}(h:s[S]?=ũ):Xq S s (ź S c):=(ĸu,λn d k _ e=>aV e (λz=>k øP),λz l hz=>by
 have ne:S≠z:=λy=>by rw[<-y]at hz;rcases pJ hz with q|q<;>(rw[h]at q;ext M)
 ext no
 .exact mV ńs
 .exact tY ńs)
abbrev ade:MB:=Ĥ3
def wV(l:dQ):ý:=(øU λx=>ž x.1)
def Told(s:ai)(S:Nat)(W:dQ):Prop:=(đ9/\∀x∈W,S<x.1/\ĕK)
theorem FK{M:Nat}[6]:∀[184](s:ai)[252][54],ĊJ=đ ->
  ∃s',aY (λay=>ar ay M=đ) ĩ aU qq vs [x] s ēm=.ok (lV (zs++ņZ)) s'/\Ĵ/\∀z∈ņZ,s'[z]?=ďW
 |[],s,zs,x,h=>(s,by rw[iA h];simp,úP,λz m=>by simp at m)
 |ċS,s,zs,x,h=>by
  let⟨s1,b_⟩:=NE (s++[aH.dK []])
  ext W
  ext cE
  ext b;let⟨s2,e2,x2,z2⟩:=FK vs s1 Ŀq ÿP (ûp h);rw[l1]at e2 z2;ext a;refine(s2,?_,úS,λz m=>?_)
  .rw[qA h ĔY (show qq üR s=.ok āS s1 by rw[b_];rfl)];have:lV zs++[ăq]=lV Ŀq:=by ext aW;rw[Ŋ];rfl
   rw[this,e2,Į];rfl
  .ext ax
   .exact Ĝ2
   .exact z2 z m
def cT(t:Tm):eZ:=(%[āp|t.2])
def adf(t:Tm):tM t=tV (cT t):=by unfold tM tV cT jv;rw[fV];rfl
def tMs[147]:øU tM=(øU cT).map tV:=by rw[ğ];exact ùP λt _=>adf t
def prT(b:Tm)(t:Tm):Tm:=(%[Ć7|t.2*b.2])
abbrev prE:ME:=ĪR
def FL[111][8](h:k<ù1):aQ Ĕ6 ý' st=.ok (.int (es[k]:Int)) st:=by unfold aQ;ext d;rw[g? (by unfold nV;rw[ĭ,ħ h];rfl)]
theorem FO{s:ai}{t b:Tm}(hl:úp=ğh):∀[295][54](ys:þ),j+m=úp->ys=(Ć7).take j ->
  aY øf ĩ aU prE ûN [x,þN,ĝ1] s ġA=.ok ĝt s
 |0,j,x,ys,h,e=>by rw[e,ÿ' (ĺv)];exact Ĉ0
 |m+1,j,x,ys,h,e=>by
  have lj:j<úp:=ø
  have lb:j<ğh:=ø
  have la:j<(Ć7).length:=ĺv
  have ih:=FO (s:=s) hl m Ķ ûJ Ŀp ø (by rw[e,ěk,ħ la];rfl);have i1:=FL (st:=s) lj;have i2:=FL (st:=s) lb;have ad:cA (.int (t.1[j]:Int)) (.int (b.1[j]:Int)) s=.ok (Ľx) s:=by
   rw[UA,show ěa=t.1[j]+b.1[j]from ĳI]
   push_cast
   rfl
  rw[show nV Ŀp=nV ys++[Ľx] by ext dl]at ih;exact fW trivial rfl rfl ŀ ih
abbrev prI:MB:=aB (aN 5 (ax n_ (ag (b9 1 [3,4] ĪY ĩ aU prE) aw))) ĥI
abbrev prO:MB:=fj üz ý0 prI
abbrev aeL:MB:=ħE
theorem FQ{s:ai}{f e:þ}(hl:ùT):∀[295][41],j+m=ÿl ->
  ∃y',forL øf Ą8 aeL ûN [some (ĐD), Ĉ4, y] s=if įE=true then .nx [some (ĐD), Ĉ4, y'] s else .rt új s
 |0,j,y,h=>(y,by
  rw[ĖN ø,ĖN ø,if_pos (show dvd [] []=true from rfl)];exact þ9)
 |m+1,j,y,h=>by
  have lf:j<ÿl:=ø
  have le:j<ùw:=ø
  let⟨y',ih⟩:=FQ hl m Ķ ûJ ø;refine(y',?_);have ed:įE=(decide (f[j]<=e[j])&&dvd (f.drop Ķ) (e.drop Ķ)):=by rw[ü4 lf,ü4 le];rfl
  rw[ed];have i1:=FL (st:=s) lf;have i2:=FL (st:=s) le;by_cases z:f[j]<=e[j]
  .have gt:ĩh=û_:=by rw[rO,ùo]
   rw[ćL,Ĉa];exact dD trivial ŀ rfl ih
  .have gt:ĩh=ÿi:=ŀc
   rw[ĸD,ďr,ņ];exact aaF trivial ŀ rfl
def BI{f e:þ}(hl:ùT)(h8:ÿl<=1000):_E.d0 [ĐD,Āq] s=.ok (.bl (ăZ)) s:=by
 let⟨y,lp⟩:=FQ hl ÿl 0 none ø;rw[ĀC,ĀC]at lp;have ln:c7 [ĐD] s=.ok (.int (ÿl:Int)) s:=ĺq
 rw[<-cR]at lp;unfold _E.d0;cases z:ăZ with
 |true=>rw[z,Ī]at lp;ac_rfl
 |false=>rw[z,ņ]at lp;ac_rfl
def D3[333][414](hc:ģN=ăD):aY g a c e ċi τ st ys=ıP:=by
 ext fT
 rw[û4,h1];ext d;rw[hc]
abbrev aeM:MB:=ĦS
theorem BJ{s:ai}{x0 x1:ć}:∀[59][41],∃y',forL øf Ą8 aeM û8 [x0,x1,y] s=.nx [x0,x1,y'] s
 |[],y=>(y,þ9)
 |ą0,y=>by
  let⟨y',ih⟩:=BJ es ļ7;have wh:=nO þC s;have lt:ltV (ÿk) ùg s=û_:=ŀd
  exact(y',dD (w:=ÿk) trivial ŀ rfl ih)
def BK[111](h:ĔV):_E.cz [ăQ,Ăy] s=ÿi:=by
 let⟨y,lp⟩:=BJ (s:=s) (x0:=some Ĕ6) (x1:=some āL) es none;have ln:c7 [ăQ] s=.ok āL s:=by ext fS;rw[č,h]
 have ne:gC āL āL s=û_:=ĬF
 have it:dy aM [some Ĕ6, āJ, qn] s=.ok (ÿ3,úq) s:=rfl;unfold _E.cz
 ac_rfl
abbrev adg:MB:=ĤC
structure jA[34][46][147]:Prop where
 len:Đp
 num:∀t∈l,ăi
 Qq:øB (øU þI)
def aaO{a c:þ}[8](ha:a≠[])(hc:c≠[]):leX (.tup (nV a)) (.tup (nV c)) st=.ok (.bl (!(Ň (iE c) (iE a)))) st:=by rw[fV,fV];exact aao (a:=iE a) (λz=>ha ġI) (λz=>hc ġI)
def Mi{q:Nat}[150][12][218](S:đX)(hk:k<Ÿ){y:ć}:
  adg [qL q, qI p, āJ, ąx, y] s=.nx [qL q, qI p, āJ, ąx, some (tM l[k])] s:=by
 ext b;let⟨t,ht⟩:=NE (l[k])
 ext a;have mt:t∈l:=by rw[ht];exact ą9
 rw[<-ht];have iq:=a! hq;have at_:∀{j:Nat}{u:Tm},l[j]?=Ę->aQ ąG ąH s=.ok (tM u) s:=λ{j u}e=>og iq (g? (ĺB));have nm:=Đ3;have ix:=at_ (show l[k]?=some t by rw[ħ hk,ht]);have it:wx "tuple" ģf s=ÿi:=K3;have ae:=BK (s:=s) (Đ2);have wh:=nO t.2 s;have lt:ltV ý8 þa s=û_:=ŀd
 have ge:geV ý8 ċg s=û_:=by rw[ach,ùo]
 cases k with
 |zero=>ac_rfl
 |succ j=>
  have lj:j<Ÿ:=ø
  have gt:uI Łe ùg s=ÿi:=ŀc
  have sb:gb Łe þa s=.ok ąH s:=by rw[uX,show ĬN-1=ù0 by ext c]
  have ij:=at_ (ħ lj);have ne:∀u∈l,u.1≠[]:=λu mu z=>by have:=S.len u mu;ext gm;ext c
  have fl:=Ćx (ûV S.Qq) j Ķ lj hk (Ćf j);rw[<-ht]at fl;have le:=aaO (st:=s) (ne _ (Ăv lj)) (ne t mt);rw[fl]at le
  ac_rfl
theorem BL{s:ai}{q aj:Nat}[204][150][12][218](S:đX):∀[295](y3 y4:ć),j+m=Ÿ ->
  ∃z3 z4,forL øf ød adg ûN [qL q, qI p, āJ, y3, y4] s=.nx [qL q, qI p, āJ, z3, z4] s
 |0,j,y3,y4,_=>(y3,y4,þ9)
 |m+1,j,y3,y4,h=>by let⟨z3,z4,ih⟩:=BL m1 hq S m Ķ ûJ (some (tM (l[j]'()))) ø;exact(z3,z4,dD trivial (Mi m1 hq S ø) rfl ih)
def Mj{q:Nat}[150][12][218](S:đX)(hl:Ÿ<=100000):ċB [üB,øx,Ăy] s=ÿi:=by
 ext b;let⟨z3,z4,lp⟩:=BL m1 hq S Ÿ 0 none none ø;have il:=is_list hq;have ln:c7 [üB] s=.ok (.int (Ÿ:Int)) s:=by rw[je (a! hq),č]
 rw[<-cR]at lp;ext a;unfold ċB
 ac_rfl
abbrev aeN:MB:=ħF
theorem BM{s:ai}{S aj:Nat}[204][6]{x3:ć}[12](hS:ar s S=đ):∀(W:dQ)[41],(Ĩn) ->
  ∃y',forL (λay=>ar ay S=đ) ý0 aeN ēp [qL S, qI p, āJ, x3, y] s=.nx [qL S, qI p, āJ, x3, y'] s
 |[],y,_=>(y,c! hS)
 |x::W,y,h=>by let⟨h1,h2,h3⟩:=h x ċ;let⟨y',ih⟩:=BM m1 hS W (some (.loc x.1)) λz m=>h z ŕ;have is:=Mj m1 h1 h2 h3;exact(y',dD (w:=.loc x.1) hS ŀ rfl ih)
def BN[62]{W:dQ}[12](hS:đ9)(h:Ĩn)(hn:Ř=n):_E.fS [ý5,øx,Ăy,ġR] s=ÿi:=by
 let⟨y,lp⟩:=BM (x3:=some ăV) m1 (a! hS) W none h;have il:=is_list hS;have ln:c7 [ý5] s=.ok ăV s:=by rw[je (a! hS)];ext cp;rw[č,hn]
 have ne:gC ăV ăV s=û_:=ĬF
 unfold _E.fS
 ac_rfl
section
variable[299]{rows:ġ7}{mo:List Mo}{W:dQ}
abbrev toB:MB:=ĥ6
open e
open e _I
variable {q:Nat}
namespace _I
open PySem.Spec _A _D
open PyProof.Rows hiding St kindOf
open _L (gY gE iN zN)
abbrev drE:ME:=Ħu
def Cq(p a b:Int):Prop:=(∃k,a=b+p*k)
def Cq.refl{a:Int}:Cq p a a:=(0,by rw[þU,łG])
def Cq.of[138](h:a=b):Cq p a b:=by rw[h];exact ĄX
def Cq.trans{a b c:Int}[220](g:Cq p b c):Cq p a c:=by ext bV;ext oD;exact(l+k,ĸt)
def Cq.symm[138][220]:Cq p b a:=by ext bV;exact(-k,by rw[ĈF];ext c)
def Cq.add{a b c d:Int}[220](g:Cq p c d):Cq p (a+c) (b+d):=by ext bV;ext oD;exact(k+l,ĸt)
def Cq.mul[138](c:Int)[220]:Cq p (c*a) (c*b):=by ext bV;exact(c*k,by rw[ĀN,<-ùv,ûc c p,ùv])
def Cq.mod{a:Int}:Cq p (a % p) a:=(-(a / p),by have:=ĲB a p;rw[ĈF];ext c)
def Cq.eq[138][220]:a % p=b % p:=by ext bV;exact ĮH b p k
def ln[146]:ú->Int
 |[]=>0
 |t::T=>Ċc
theorem om[146]:∀A B:ú,ln F ģa=ln F A+ĊT
 |[],B=>by show ĊT=0+ĊT;ext c
 |t::A,B=>by show ĀI+ln F ģa=ĀI+ln F A+ĊT;rw[om F A B];ext c
def FR[75]{A B:ú}(h:A.Perm B):ln F A=ĊT:=by
 induction h with
 |nil=>rfl
 |cons x _ ih=>show đJ+_=đJ+_;rw[ih]
 |swap x y l=>show F y.1*y.2+(đJ+ln F l)=đJ+(F y.1*y.2+ln F l);ext c
 |trans _ _ i1 i2=>rw[i1,i2]
def dG[81][40]:Int:=((Ĵm ŗ).getD 0)
def putN[81][40][148]:ú:=(if ċ_ then ľk else T++[%[e|v]])
def gz[81][40]:ú:=(T.filter λt=>decide (t.1≠e))
def pK[19]{t:Tm}[13](h:üV):dG Ĕj e=t.2:=by unfold dG;rw[čp ĕh];rfl
def mW[19]{t:Tm}[13](h:¬ üV):dG Ĕj e=ûz:=by unfold dG;rw[čo ĕh]
theorem fF[13]:∀[19],e ∉ ĉk->ûz=0
 |[],_=>rfl
 |t::T,h=>by rw[mW (λz=>h (by rw[<-z];ext bF)),fF λm=>h ŕ]
theorem Ml[75][13][206]:∀[19],Āa->ģQ->ln F (úD λt=>Čz)=ļw
 |t::T,nd,m=>by
  ext cW;rw[Ą];ext bW
  .have ne:e ∉ ĉk:=Ęs
   have er:ľk=T:=by refine(ùP üa).trans (ĐK T);show(if u.1=e then%[u.1|v]else u)=u;rw[if_neg λy=>ne (by rw[<-y];exact ĂY mu)]
   rw[øO,er,pK z];show F t.1*v+øm=Ċc+F e*(v-t.2);rw[z,ĐJ];ext c
  .rw[ů,mW z];have m':ģQ:=by
    rcases ŏ m with y|y
    .exact absurd ąc z
    .exact y
   show ĀI+ln F _=Ċc+_;rw[Ml nd.2 m'];ext c
def pL[19][13]:ċ_ ↔ģQ:=by rw[ĆR,Ğn];exact(λņ9=>(t,m,of_decide_eq_true h),λņ9=>(t,m,ĺG))
def Mn[75][19][13][206][250]:ln F (putN T e v)=ļw:=by
 unfold putN;ext dE
 .rw[øO,Ml nd ńO]
 .rw[ů,om,fF ĸ9];show øm+(F e*v+0)=øm+F e*(v-0);rw[Int.sub_zero];ext c
theorem vC[75][13]:∀[19],Āa->ln F (ĊN)=øm-F e*ûz
 |[],_=>by show üC=0-F e*0;rw[þU];rfl
 |t::T,nd=>by
  ext cW;have ih:=vC (F:=F) (e:=e) nd.2;unfold gz at ih⊢;ext bW
  .rw[Āe (by ext bm;exact λy=>y z),ih,pK z,fF (Ęs)];show øm-F e*0=Ċc-F e*t.2;rw[z,þU];ext c
  .rw[Āf (by ext bm;ext o),mW z];show ĀI+ln F _=Ċc-_;ext c
def BO[19][13][206]:ĶF ď=if e∈úD ď then úD ď else ĉk++[e]:=by
 unfold putN;ext dE
 .rw[øO,if_pos ńO,ğ];ext fQ;show(Čz).1=t.1;ext gi
  .rw[Ē4]
  .rw[ĉH]
 .rw[ů,if_neg ĸ9,Ŋ];rfl
def wD[34][81][40](c:Int):ú:=(if ďo ≠0 then putN T e (ďo)else ĊN)
def aaP[75][19][13][201][250]:Cq p (ln F (đg)) (øm+F e*c):=by
 let⟨k,hk⟩:=Cq.mod;unfold wD;by_cases z:ďo ≠0
 .rw[øO,Mn nd,hk];refine Łp;rw[show ûz+c+p*k-ûz=c+p*k by ext c,ĀN,<-ùv,ņV,ùv];ext c
 .rw[ů,vC nd];refine Łp;have h2:ûz = -c-p*k:=ø
  rw[h2,ĐJ,ĈF,<-ùv,<-ùv,ņV];ext c
def Mp[19][13][201][250]:((đg).map ď).Nodup:=by
 unfold wD;split
 .rw[BO];split
  .exact nd
  .rename_i m;refine čB (nd,ĂA,Ĵ_);ext mC
 .unfold gz;exact ĪE nd
def FT[19][13][201][25]{t:Tm}(m:t∈đg):ċR\/(üV/\ăi):=by
 unfold wD at m;split at m
 .ext ci;have h1:=ăj ġF į3;have h2:=Ă7 ġF hp;unfold putN at m;split at m
  .ext mo;by_cases y:u.1=e
   .rw[Ē4];exact .inr (y,ĵV,h2)
   .rw[ĉH];exact .inl mu
  .ext aP
   .exact .inl m
   .ext cm;exact .inr (rfl,ĵV,h2)
 .exact .inl (ûW m).1
def sO[34][40][33]:ŀN
 |[],T=>T
 |ı,T=>sO p e n us (ĳ7)
theorem FU[204][75][13][117]:∀(us T:ú),Āa->Cq p (ln F (čY)) (øm+n*Ġ3)
 |[],T,_=>ċn (by show øm=øm+n*0;rw[þU];ext c)
 |ı,T,nd=>by have h1:=FU (p:=p) (F:=F) (e:=e) (n:=n) us _ (Mp (p:=p) (e:=ćv) (c:=n*u.2) nd);have h2:=aaP (p:=p) (F:=F) (e:=ćv) (c:=n*u.2) nd;refine h1.trans ((h2.add ĄX).trans ýD);show øm+F ąD*ġz+n*Ġ3=øm+n*(F ąD*u.2+Ġ3);rw[ĀN,<-ùv,ûc (F ąD) n,ùv];ext c
theorem BP[204][13][117][25]:∀(us T:ú){t:Tm},t∈čY->ċR\/((∃u∈us,t.1=ćv)/\ăi)
 |[],T,t,h=>đG
 |ı,T,t,h=>by
  rcases BP hp us _ h with h|⟨⟨v,mv,e1⟩,h2⟩
  .rcases FT hp h with h|⟨e1,h2⟩
   .exact đG
   .exact .inr ((u,ċ,e1),h2)
  .exact .inr ((v,š _ mv,e1),h2)
structure jB[159](Wm:Nat):Prop where
 add:∀e f:þ,āK->ÿl=aj->wt Ċ'=wt e+wt f
 fit:∀e:þ,āK->ēa->ās
 cnt:∀T:ûs,T.Nodup->(∀e∈T,āK/\ēa)->ĉc<=10000
structure nq[159](Wm:Nat)[34][81]:Prop where
 nd:Āa
 ok:∀t∈T,ĳ9
section
variable[1]
def nq.len[19][191][43]:ĉc<=10000:=by
 have:=W.cnt _ h.nd (λe me=>by
  let⟨t,mt,rfl⟩:=Ĕ me;exact(ľ'.1,ľ'.2.1))
 ext gv;ext n
def nq.fit[19][191][43]{t:Tm}[176]:ăx:=W.fit _ (Ģt).1 (Ģt).2.1
def t5[273](g:jz aj Ċ')[230]:aC b v Ċ'=Ģg+Ģh:=by
 ext fc
 rw[fX h hv,fX k hv,fX g hv,<-FC _ _ (by unfold ig;cases b<;>simp[l])];congr 1;unfold ig;rw[BH l,BG l];cases b with
 |true=>
  rw[Ī,Ī,Ī,ĴH ĳo];rfl
 |false=>
  rw[ņ,ņ,ņ,ń,ń,ń];rfl
theorem mX[11][13]:∀[19],(ČQ)->Ńy=Ĵm λt=>Ė t.2
 |[],_=>rfl
 |t::T,h=>by
  unfold j!;rw[Ą];ext bW
  .rw[čp (by show decide (ěJ=_)=true;unfold cb;rw[z];exact ĂQ),čp ĳp];rfl
  .rw[čo (by
    ext bm;intro y;ext ob;exact z (h t ċ ø)),čo ĳp]
   exact mX λu mu=>h u (š _ mu)
def Qr[11][13][19](h:ČQ):(Ńy).getD ùg=.int (ûz):=by rw[mX h];unfold dG;cases ēD ĕ'<;>rfl
def Qs[11][13]{x:Int}[19](h:ČQ):m_ ýC (ĆN) ğT=(putN T e x).map ûR:=by
 unfold m_ putN;have ea:((ē').any λkv=>decide (kv.1=(ĆN:bF)))=ĠB:=by
  ext le;ext D
  .ext oh;have q':=ýc;injection q' with q';exact(t,mt,decide_eq_true (h t mt ø))
  .ext oh;refine(t,mt,decide_eq_true ?_);unfold cb;rw[ýc]
 rw[ea];ext dE
 .ext nT;refine ùP λt mt=>?_;show(if ěJ=(ĆN:bF) then%[ěJ|Ė x]else cb b w t)=cb b w (if üV then%[t.1|x]else t);ext gi
  .rw[Ē4,if_pos (by unfold cb;rw[y])];rfl
  .rw[ĉH,if_neg (λq=>y (h t mt (by injection q with q;ext c)))]
 ext nt
def BQ[11][13][19](h:ČQ):rT ýC (ĆN)=(ĊN).map ûR:=Qp (t:=%[e|0]) h
def Ir[13][19](h:¬ ċ_):ĊN=T:=by refine İT λt mt=>decide_eq_true λz=>h ?_;exact List.any_eq_true.mpr (t,mt,ćL)
abbrev amB:MB:=(ĤM)
def Qt{l:Nat}[19]{u:Tm}[13][117]{y8:ć}[25][43][32][9](hT:Āc)(hL:čk)(fu:ĠZ)(fe:ās)(hw:wt ąD<=Wm)[349]:
  ∃z7 z8,amB [qI p, qL L, qL l, ĔG, qI n, qI Đy, qI u.2, y7, y8] s=.nx [qI p, qL L, qL l, ĔG, qI n, qI Đy, qI u.2, z7, z8] (ź L (.dK ((ĳ7).map øh))):=by
 ext b;obtain⟨e',he'⟩:∃e',e'=ćv:=ę
 have le:e'.length=aj:=by rw[he',gM,fu.1,fe.1,ĀS]
 ext a;rw[<-he']at hw⊢;ext b;have fe':=W.fit e' le hw;let⟨k,hk⟩:=NE (Ņ3:Nat)
 have ka:Đy+ČH=øF:=by have:=t5 (b:=b) fu fe (by rw[<-he'];exact fe') (v:=v+1) ø;rw[<-he']at this;ext c
 have inj:∀t∈T,ùN=Ņ3->t.1=e':=λt mt z=>ik (hT.fit W mt) fe' hm ø z;let⟨c,hc⟩:=NE (ķN % p)
 ext a;have av:cA Łg (.int ČH) s=.ok ý' s:=by rw[<-ka];rfl
 have gd:(j! ĐA Łb).getD ùg=Ľv:=by rw[hk,Qr inj]
 have ml:du ÿS ĚV s=.ok (.int ġz) s:=Bf hn.1 hn.2;have md:cw (.int ķN) ċg s=.ok Ĝ8 s:=by rw[ÿI,Ćk,hc]
 have lT:=hT.len W;unfold wD;rw[<-hc];by_cases z:c=0
 .rw[if_neg (λy=>y z)];have ne:Ńs=û_:=by rw[z];rfl
  have di:Hr false ý' āR s=.ok (.bl ľX) s:=by unfold Hr kE;ext d;rw[hL];show Ŝ (au.bl (j! ĐA đz).isSome) s=_;rw[hk,mX inj,ęI];congr 2;rw[ćc,List.find?_isSome,ĆR]
  by_cases a:ľX=true
  .rw[a]at di;have po:łC=.ok (Ľv) (ź L (.dK ((gz T e').map øh))):=by
    unfold DO;ext d;ext ha;unfold dG;cases hf:ēD Īh with
    |none=>
     let⟨t,mt,q⟩:=ĴE a;exact absurd q ĦA
    |some t=>rfl
   ac_rfl
  .rw[Ęm a]at di;rw[Ir a,zH hL]
   ac_rfl
 .rw[øO];have ne:Ńs=ÿi:=by rw[rR,ú2 z];rfl
  have pw:=Qs (x:=c) inj;rw[<-hk]at pw
  ac_rfl
open e
section
variable[1]
def nq.upd[19][13][201][191][25](le:āK)(hw:ēa):nq aj wt Wm p (đg):=(Mp h.nd,λt mt=>by
 rcases FT hp mt with m|⟨e1,h1,h2⟩
 .exact Ģt
 .exact(by rw[e1];exact le,by rw[e1];exact hw,h1,h2))
theorem FV{L l:Nat}[13][117]{us0:ý}[25][43][32][9](fe:ās)[349](lL:l≠L):∀(us:ú)(s:ai)[81](y5 y6 y7 y8:ć),(īA)->Āc->čk->s[l]?=some (.lst us0) ->
  ∃z5 z6 z7 z8,forL (λay=>ar ay l=some us0) ĶA amB Ņg [qI p, qL L, qL l, ĔG, qI n, y5, y6, y7, y8] s=.nx [qI p, qL L, qL l, ĔG, qI n, z5, z6, z7, z8] ī5/\Ĵ3
 |[],s,T,y5,y6,y7,y8,_,hT,hL,hl=>(y5,y6,y7,y8,by
  show _=þc _ (ź L ńh);rw[zH hL]
  ac_rfl,hT)
 |ı,s,T,y5,y6,y7,y8,h,hT,hL,hl=>by let⟨fu,hw⟩:=h u ċ;let⟨z7,z8,e1⟩:=Qt hp W hv hm hT hL fu fe hw hn;let⟨w5,w6,w7,w8,e2,h2⟩:=FV hp W hv hm fe hn lL us _ _ (some Łg) Ł1 z7 z8 (ĚQ) (hT.upd hp (by rw[gM,fu.1,fe.1,ĀS]) hw) (iZ hL) (aV hl (λz=>lL øP));rw[ĜE]at e2;exact(w5,w6,w7,w8,ùO,h2)
def Qu{l:Nat}[13][117]{us T:ú}[25][43][32][9](fe:ās)[349](hu:īA)(hT:Āc)(hL:čk)(hl:s[l]?=some (.lst Ņg)):
  _E.c6 [øx,Č7,.loc l,.int ČH,ýL] s=.ok .cq ī5/\Ĵ3:=by
 have lL:l≠L:=λz=>by rw[z,hL]at hl;cases hl
 ext b;let⟨z5,z6,z7,z8,lp,h2⟩:=FV hp W hv hm fe hn lL us s T none none none none hu hT hL hl;ext a;refine(?_,h2);unfold _E.c6
 ac_rfl
open e
structure Md where
 m:Nat
 t:Tm
 bk:Int
 l:Nat
 tl:ú
def BR(s:ai)[10][84](x:Md):Prop:=(s[x.m]?=some (.ins "Monic" (DZ (ĈW) x.bk x.l))/\s[x.l]?=some (.lst (x.tl.map Ĉ9)))
def BR.to[1][11]{x:Md}(h:BR s b w x)(k:úd):BR s' b w x:=(k.at_ _ _ trivial h.1,k.at_ _ _ trivial h.2)
structure Mq[159][10][84][34](x:Md):Prop where
 fit:jz aj øy
 bk:0<x.bk/\x.bk<p/\ğH % p=1
 tl:∀u∈x.tl,ĠZ/\wt u.1<=wt øy/\ýj<ĈW
def Qv(l:ým):ý:=(øU λx=>ž x.m)
def mF[146](x:Md)[40]:Int:=(F (bN øy e)+ņl)
def D4[146](q:ŧ):Nat->ým->Int
 |_,[]=>0
 |i,x::mo=>Ĭl
theorem FW[75]{q:ŧ}{t:Tm}:∀[141][239]{x:Md},i<=j->mo[j-i]?=ī->D4 F (qF q j t) i mo=ŅC+mF F x t.1*t.2
 |[],i,j,x,_,h=>ûh
 |y::mo,i,j,x,hij,h=>by
  ext aH
  .ext A;rw[úu]at h;ext e;show ln ğ6 (qF q i t i)+D4 F ŁX Ē mo=ęN+ĿS+_;have e:∀[141][22],i<k->D4 F ŁX k mo=D4 F q k mo:=by
    intro mo
    induction mo with
    |nil=>intro k _;rfl
    |cons w mo ih=>
     intro k hk;show ln (mF F w) (qF q i t k)+_=ln (mF F w) (q k)+_;rw[ih øe ø];ext co;rw[Ŗ]
   rw[e mo Ē ø];ext co;rw[Ī,om];show ęN+(mF F y t.1*t.2+0)+_=_;ext c
  .have h':mo[j-Ē]?=ī:=by rw[Į3,Ăz]at h;ext j
   have ih:=FW (F:=F) (q:=q) (t:=t) mo Ē j ø h';show ln ğ6 (qF q j t i)+_=ęN+_+_;rw[ih];ext co;rw[ů];ext c
theorem FX[75]:∀[141][5],D4 F (Ą5) i mo=0
 |[],i=>rfl
 |x::mo,i=>by show üC+D4 F (Ą5) Ē mo=0;rw[FX mo Ē];rfl
structure GI[159](Wm:Nat)[34][10](w K1:Nat)[240][141](T R:ú)(q:ŧ):Prop where
 RC:∀F,Cq p (ĉI) (øm+ĊU+ĐE)
 oT:Āc
 oR:nq aj wt Wm p R
 nR:∀r∈R,pG r.1 0 ĖH=none
 oq:İA
 aR:∀r∈R,∀t∈T,ùm<aC b w r.1
 aq:∀[5](x:Md),Ĉ1->∀u∈q i,(∀t∈T,ùm<ĈW+ýj)/\ĈW+ýj<K1/\wt øy+wt u.1<=Wm
 kT:∀t∈T,ùm<K1
def GI.start[1][11][95](h:ęO)(hk:∀t∈row,ùm<K1):GI aj wt Wm p b w K1 row mo row [] Ą5:=
 have z:nq aj wt Wm p []:=ĶM
 (λF=>ċn (by rw[FX];show ĉI=ĉI+0+0;ext c),h,z,λr m=>ČC,λ_=>z,λr m=>ČC,λi x _ u m=>ČC,hk)
theorem mY:∀[236],Ąc=bN f e
 |[],[]=>rfl
 |[],_::_=>rfl
 |_::_,[]=>rfl
 |x::e,y::f=>by show łb=(y+x)::bN f e;rw[mY e f,Ĉt]
def ir[19][250]{t:Tm}[176]:Ē3=t.2:=by
 induction T with
 |nil=>cases m
 |cons u T ih=>
  ext cW;ext ax
  .exact pK rfl
  .rw[mW λz=>nd.1 (by rw[z];exact ĂY m)];exact ih nd.2 m
theorem zO(f:ĄG):∀j i,i<=j->f i<=đN
 |0,i,h=>by rw[show i=0 by ext c];exact ĿW
 |j+1,i,h=>by
  unfold ąW;by_cases z:ċI>đN
  .rw[øO];by_cases y:i=j+1
   .rw[y];exact ĿW
   .have:=ŃR;ext c
  .rw[ů];by_cases y:i=j+1
   .rw[y];ext c
   .exact ŃR
def BS[1][11][19](h:ĘO)(ne:T≠[]):∃t∈T,qw ąQ s=.ok (Ąj) s/\∀u∈T,ýj<=ùm:=by
 cases T with
 |nil=>ext dp
 |cons t T=>
  let⟨i,h1,h2⟩:=vo ĹP ĉc;have li:i<Ļz:=Āt
  have gd:∀k(hk:k<Ļz),ħs k 0=(aC b w Ĕj[k].1:Int):=λk hk=>by rw[ûQ,ĭ,ħ hk];rfl
  refine(Ĕj[i],ą9,?_,üa)
  .unfold qw;ext d;rw[show gu s L=some (Ł4 ûR) by ext dB];ext d;rw[Mb,Ą];ext d;rw[č,<-Ą (f:=λt:Tm=>þD),h2,gd i li]
  .let⟨k,lk,e⟩:=č1 mu;have g:=zO ĹP ĉc k (by rw[ă]at lk;ext c);rw[h2,gd i li,gd k lk,e]at g;ext c
def pM:ùS->Nat
 |[]=>0
 |kv::l=>max (match kv.1 with|üJ=>ĉ7+1|_=>0) (pM l)
theorem pN[1][11]:∀[19]{t:Tm},ċR->ùm+1<=pM ýC
 |u::T,t,m=>by
  show ùm+1<=Ī9;ext ax
  .lia
  .have:=pN (b:=b) (w:=w) m;ext c
theorem t7[1]{w B:Nat}:∀[19],(∀t∈T,ùm<B)->pM ýC<=B
 |[],_=>ùM
 |u::T,h=>by show Ī9<=B;have h1:=ģS;have h2:=t7 λt m=>h t ŕ;ext c
def rZ(L:Nat)(s:ai):Nat:=(match ą5 with
 |ýv=>pM l
 |_=>0)
def jO[99](h:ą5=ýv):rZ L s=pM l:=by unfold rZ;rw[h]
section
variable[1][95][361]{t:Tm}
def nq.del[13][191]:nq aj wt Wm p (ĊN):=(ĪE h.nd,λt mt=>h.ok t (ûW mt).1)
def nq.snoc[191](ht:ĳ9)(ne:∀u∈T,u.1≠t.1):nq aj wt Wm p (T++[t]):=(by
 rw[Ŋ];refine čB (h.nd,ĂA,λa ma c mc y=>?_);let⟨u,mu,rfl⟩:=Ĕ ma;rw[ţ mc]at y;exact ne u mu y,λu mu=>by
 ext fx
 .exact h.ok u mu
 .rw[ţ mu];exact ht)
def yd[43][9][32][191][176](mx:ĎB):ľz:=λu mu=>by
 let⟨m1,m2⟩:=ûW mu;have ne:=ĘN;have le:=mx u m1;rcases øI (ÿ8) ĕk with z|z
 .ext o
 .exact absurd (ik (h.fit W m1) (h.fit W m) hm ø (show Ĥe by ext c)) ne
def BU[43][32](oT:Āc)[176]{x:Md}(X:Ăt)[459]:
  ĽW/\jz aj ĂI/\wt øy+wt ĂI=wt t.1/\Ďg+aC b ÿ ĂI=ùN:=by
 have ft:=oT.fit W m;have fs:=Qn ft X.fit;have e:ĽW:=by rw[mY];exact FD (by rw[ft.1,X.fit.1]) dv
 refine(e,fs,?_,?_)
 .rw[<-W.add _ _ X.fit.1 fs.1,e]
 .rw[<-t5 X.fit fs (by rw[e];exact ft) ø,e]
def GI.toQ(I:Ćn)[25][43][9][32][176](mx:ĎB){x:Md}(hx:ğt)(X:Ăt)[459](oT':nq aj wt Wm p (ĖS)):
  GI aj wt Wm p b ÿ K1 row mo (ĖS) R (qF q j %[nh t.1 øy|t.2])/\∀u∈ĖS,Ēt:=by
 ext b;let⟨e1,e2,e3,e4⟩:=BU W hv I.oT m X dv;ext nk
 ext a;rw[<-he]at e1 e2 e3 e4 oT'⊢;have ht:=ģq t m;ext kM;have below:∀u∈ĵu,Ēt:=λu mu=>by
  rcases BP hp x.tl _ mu with z|⟨⟨w,mw,ew⟩,_⟩
  .exact bd u z
  .let⟨f1,f2,f3⟩:=X.tl w mw;have wl:wt (bN w.1 e)<=Wm:=by rw[W.add _ _ f1.1 e2.1];have:=ht.2.1;ext c
   rw[ew,t5 f1 e2 (W.fit _ (by rw[gM,f1.1,e2.1,ĀS]) wl) ø];ext c
 refine((λF=>?_,oT',I.oR,I.nR,Ĥx,λr mr u mu=>Āw ļQ (ĿV),λi y hy u mu=>?_,λu mu=>Āw ļQ (I.kT t m)),below)
 .have h1:=FU (p:=p) (F:=F) (e:=e) (n:=-t.2) x.tl Ĕ8 (ġ2).nd;rw[vC ēy,ir ēy m]at h1;have h2:=FW (F:=F) (q:=q) (t:=%[e|t.2]) mo 0 j ûH (by rw[ăG];exact hx);refine Ĺg ?_;rw[h2];have h3:=(h1.symm.add (ĄX (a:=ĊU))).add (ĄX (a:=ĐE+ĢC*t.2));refine ĒO ýD h3;unfold mF;rw[e1];generalize ņl=Λ;rw[ŅK,Int.neg_mul,ûc Λ t.2];ext c
 .ext co;ext aH
  .rw[øO];refine(I.oq j).snoc (e2.1,by show ēa;have:=ht.2.1;ext c,ht.2.2) λu mu y=>?_;have:=(I.aq j x hx u mu).1 t m;replace y:u.1=e:=y;rw[y]at this;ext c
  .rw[ů];exact I.oq i
 .unfold qF at mu;ext aH
  .rw[øO]at mu;ext A;rw[hx]at hy;cases hy;ext fx
   .have:=I.aq i x hx u mu;exact ħQ
   .rw[ţ mu];rw[e4,e3];exact(below,I.kT t m,ht.2.1)
  .rw[ů]at mu;have:=ę';exact ħQ
def GI.toR(I:Ćn)[43][9][32][176](mx:ĎB)(hn:ęP):
  GI aj wt Wm p b ÿ K1 row mo Ĕ8 (R++[t]) q/\ľz:=by
 ext kM;refine((λF=>?_,ġ2,I.oR.snoc (ģq t m) λr mr y=>?_,λr mr=>?_,I.oq,λr mr u mu=>?_,λi y hy u mu=>(λs ms=>?_,(ę').2),λu mu=>I.kT u łh),bd)
 .refine Ĺg ýD;rw[vC ēy,ir ēy m,om];show _=_+(ĊU+(ĀI+0))+_;ext c
 .have:=ĿV;rw[y]at this;ext c
 .ext mt
  .exact I.nR r mr
  .rw[ţ mr];exact hn
 .ext mt
  .exact I.aR r mr u łh
  .rw[ţ mr];exact bd u mu
 .exact(ę').1 s (ûW ms).1
open e
structure Sd(s:ai)(M Q:Nat)[141][252][10][84]:Prop where
 mon:ĊJ=some ġr
 at_:∀x∈mo,BR s b w x
 RF:ar s Q=some ēm
 len:Ĥi
def Sd.to[243][95][1][11](h:Sd s M Q mo zs b w)(x:úd):Sd s' M Q mo zs b w:=(Ą' h.mon,λy m=>(h.at_ y m).to x,Ą' h.RF,h.len)
structure Ld(s:ai)(L:Nat)[252][10][84][81](q:ŧ):Prop where
 left:ĘO
 RF:∀(i z:Nat),zs[i]?=ąz->Ăg=some (.dK (ĞM ûR))
abbrev ldB:MB:=(ĤD)
section
variable[1][243][95]
def FY[19]{t:Tm}[43][9][32](oT:Āc)(hL:čk)(mt:ċR)(hk:k=ùN):
  łC=.ok ý8 Ŀr:=by
 have inj:∀u∈T,ĺS:=λu mu y=>ik (oT.fit W mu) (oT.fit W mt) hm ø y;unfold DO;ext d;ext ha;have g:=ir oT.nd mt;unfold dG at g;cases hf:ēD Ĳ_ with
 |none=>
  exact ĺo
 |some u=>
  ext jq
def Qw[361]{y8:ć}[25][57][32][9][43][396](I:Ćn)(ne:T≠[]){G:Nat}[372]:
  ∃t∈T,qw ąQ s=.ok ęv s/\(ĎB)/\((ęP/\ldB ĖB s=.rt .cq s) \/
   ∃(T':ú)(q':ŧ)(s':ai)(z5 z6 z7 z8:ć),ldB ĖB s=.nx [qI p, ûD, qL L, qL M, qL Q, z5, z6, z7, z8] s'/\ė9/\Čw/\(∀u∈T',Ēt)/\úd/\ĜH):=by
 ext b;let⟨fs,hfs⟩:=NE ĖH
 ext a;rw[<-hfs];ext b;let⟨t,mt,em,mx⟩:=BS ÿN ne;ext a;refine(t,mt,em,mx,?_);ext b;have ft:=I.oT.fit W mt;have ht:=ģq t mt;ext eZ
 ext gG;have pl:_E.cL [āj,Ćw,āA] s=.ok (match ņt with|úi=>ĎH|none=>.cq) s:=by
  have z:=Io (s:=s) (G:=G) (top:=k) (M:=M) (ms:=ıY) (by rw[St.mon,ğ];rfl) (λy my=>by
   let⟨x,mx,rfl⟩:=Ĕ my;exact(_,_,(St.at_ x mx).1))
  have e:(ıY).map ŗ=ĸF:=by rw[hfs,ğ,ğ];rfl
  rw[e,hk,eG,x_ ft ø fs 0 (λf mf=>by
   rw[hfs]at mf;let⟨x,mx,rfl⟩:=Ĕ mf;exact(X x mx).fit)]at z
  rw[hk,eG];ext o
 ext a;cases hf:ņt with
 |none=>
  refine .inl Ēn;rw[hf]at pl
  ac_rfl
 |some j=>
  ext b;rw[hf]at pl;dsimp only at pl;let⟨_,f,hj,dv⟩:=x! fs 0 hf;rw[ăG]at hj;have ljo:j<þ5:=by have:=(ùj hj).1;rw[hfs,č]at this;ext n
  let⟨x,hx⟩:=NE (mo[j])
  have exj:ğt:=by rw[ħ ljo,hx]
  ext a;have mx':x∈mo:=by rw[hx];exact ą9
  ext b;have ef:øy=f:=by rw[hfs,ĭ,exj]at hj;exact ùQ hj
  rw[<-ef]at dv;have Xx:=X x mx';let⟨x1,x2⟩:=St.at_ x mx';let⟨a1,a2,a3,a4⟩:=BU W hv I.oT mt Xx dv;ext a;have ljz:j<ďe:=by rw[St.len];exact ljo
  ext b;let⟨z,hz⟩:=NE (zs[j])
  have hzj:zs[j]?=ąz:=by rw[ħ ljz,hz]
  ext a;have mz:z∈zs:=by rw[hz];exact ą9
  ext b;have qz:=S.RF j z hzj;ext nk
  rw[<-he]at a1 a2 a3 a4;let⟨k2,Pg⟩:=NE (Đ5:Nat)
  ext a;have sb:øF-ń2=Ĝ':=by rw[hk,Pg];ext c
  ext b;have Lz:L≠z:=λy=>nL (by rw[y];exact mz);let⟨s1,b_⟩:=NE Ŀr
  ext a;have L1:s1[L]?=some Ėj:=by rw[b_];exact ő (bu ÿN)
  have n1:Xn s s1:=by rw[b_];exact ąp ÿN
  have z1:s1[z]?=some (.dK ķv):=by rw[b_];exact aV qz Lz
  ext b;let⟨s2,cO⟩:=NE (ÿX z (.dK (ĭV)))
  ext a;have n2:Xn s1 s2:=by rw[cO];exact ąp z1
  have L2':s2[L]?=some Ėj:=by rw[cO];exact aV L1 (λy=>Lz ąc)
  ext b;have St1:=St.to n1;have St2:=St1.to n2;let⟨x3,x4⟩:=St2.at_ x mx';let⟨am,oT'⟩:=Qu (n:=-t.2) hp W hv hm a2 ĞP (λu mu=>by
   let⟨f1,f2,_⟩:=Xx.tl u mu;refine(f1,?_);rw[W.add _ _ f1.1 a2.1];ext c) ġ2 L2' x4
  let⟨s3,jT⟩:=NE (ĊY L (.dK ((ĵu).map øh)))
  rw[<-jT]at am;ext a;have n3:Xn s2 s3:=by rw[jT];exact ąp L2'
  have im:ġr[j]?=some Łi:=by unfold Qv;rw[ĭ,exj];rfl
  have iz:ēm[j]?=some (.loc z):=by ext aW;rw[ĭ,hzj];rfl
  have m0:=St.mon;have m1:=St1.RF;have m2:=St2.mon;have s0:=ÿN;have sv:gb ý' (.int ń2) s=.ok Łh s:=by rw[<-sb];rfl
  have po:=FY W hm hv I.oT ÿN mt hk;have lq:=(I.oq j).len W;have pw:m_ ķv (.inl Ĝ') ý8=ĭV:=by
   rw[ŃQ,Ŋ,Pg]
   .rfl
   .rw[ğ]at y;let⟨u,mu,e5⟩:=Ĕ y;have e6:ÿ8=k2:=by injection e5 with e5;exact ĿX e5
    have:=(I.aq j x exj u mu).1 t mt;ext c
  rw[<-b_]at po;let⟨I',bl⟩:=I.toQ hp W hm hv mt mx exj Xx dv (by rw[<-he];exact oT');rw[<-he]at I' bl;refine .inr (_,_,s3,some ý',ĕo,some Łh,some ý8,?_,(?_,Ń7),I',bl,n1.trans (n2.trans n3),λn c h1 h2 e=>?_)
  .rw[<-Pg]at am;rw[cO]at am x3 m2
   ac_rfl
  .rw[jT];exact ő (bu L2')
  .have g:=S.RF i y hy;have my:=øC hy;have Ly:L≠y:=ņ0;rw[jT];refine aV ?_ Ly;ext co;by_cases ij:i=j
   .subst ij;rw[hzj]at hy;cases hy;rw[Ī,cO];exact ő (bu z1)
   .rw[if_neg ij,cO];have zy:z≠y:=λe=>ij (by
     rw[<-e]at hy;have li:=(ùj hy).1;rw[ĔS]at hy;have e9:zs[i]=zs[j]:=by rw[ùQ hy,hz]
     rcases ęH i j with y|y|y
     .exact absurd e9 (Ćx nz i j _ _ y)
     .exact y
     .exact absurd e9.symm (Ćx nz j i _ _ y))
    refine aV ?_ zy;rw[b_];exact aV g Ly
  .rw[jT];refine aV ?_ ľG;rw[cO];refine aV ?_ (λy=>h2 (by rw[<-y];exact mz));rw[b_];exact aV e ľG
open e
abbrev rdB:MB:=ĤR
section
variable[1][243][95]{G:Nat}
def Iu[361][25][57][32][9][43][396](I:Ćn)[372]:
  ∃(s':ai)(T':ú)(q':ŧ),_E.fU [øx,āj,Č7,āA,ĊB] s=ĐY/\ė9/\Čw/\úd/\ĜH/\Ė0 /\
   ĥa:=by
 ext b;let⟨r,e,s',T',q',h1,h2,h3,h4,h5,h6,h7⟩:=Ip
  (λZ st=>∃(T':ú)(q':ŧ)(y5 y6 y7 y8:ć),Z=ĖB/\Ld st L zs b ÿ T' q'/\Čw/\Xn s st/\Xz L zs s st/\Ė0)
  Ĵw
  (λr=>∃ (s':ai) (T':ú) (q':ŧ),r.fin=ĐY/\ė9/\Čw/\úd/\ĜH/\Ė0 /\
   ĥa)
  (by
   rintro Z st ⟨T',q',y5,y6,y7,y8,rfl,S',I',x',z',l'⟩;have Mr:=zK (Z:=[đc,some (āj),some āR,some (āA),some (ĊB),y5,y6,y7,y8]) (m:=bB) S'.left rfl;by_cases ne:T'=[]
   .ext jp;exact .inl (st,Mr,st,T',q',rfl,S',I',x',z',l',.inl ne)
   .ext lG;obtain⟨t,mt,em,mx,⟨hn,hr⟩|⟨T2,q2,s2,z5,z6,z7,z8,hb,S2,I2,b2,x2,w2⟩⟩:=Qw hp p2 hv hm W X nz nL (St.to x') S' I' ne eG
    .exact .inr (.inl (st,.cq,st,Mr,hr,st,T',q',rfl,S',I',x',z',l',.inr (t,mt,em,mx,hn)))
    .have k1:=t7 b2;ext kz;refine .inr (.inr (st,_,s2,Mr,hb,(T2,q2,z5,z6,z7,z8,rfl,S2,I2,x'.trans x2,λn c a1 a2 e=>w2 n c a1 a2 (z' n c a1 a2 e),ø),?_));rw[jO S2.left,jO S'.left];ext c)
  [qI p, ûD, qL L, qL M, qL Q, qn, qn, qn, qn] s (T,q,none,none,none,none,rfl,S,I,Xn.refl,λ_ _ _ _ e=>e,ł)
 ext a;refine(s',T',q',?_,h2,h3,h4,h5,h6,h7);exact Qk rfl rfl e h1
def Ms{D:Nat}[25][57][32][9][43](X:ďZ)(nz:Ģ0)(oR:ęO)(hk:∀t∈row,ùN<K1)(St:ĳP)(hD:s[D]?=Ľ')(hz:∀z∈zs,Ăg=ďW)[372]:
  ∃(s':ai)(Rs:Nat)(R:ú)(q:ŧ),_E.dC [øx,āj,ĊA,āA,ĊB] s=.ok ńj s'/\s'[Rs]?=ČM/\Īu/\úd /\
   ∀(i z:Nat),zs[i]?=ąz->s'[z]?=some (.dK (ĞM øh)):=by
 ext b;let⟨L,hL⟩:=NE ē
 let⟨s1,b_⟩:=NE (s++[aH.dK Đz])
 let⟨Rs,hR⟩:=NE úw
 let⟨s2,cO⟩:=NE (s1++[aH.dK []])
 ext a;ext W
 ext cH
 have IP:=úS;have L2':s2[L]?=Ľ':=x2.2 _ _ (by rw[b_,hL];ext B);have R2:s2[Rs]?=ďW:=by rw[cO,hR];ext B
 have lR:Rs=Ăe:=by rw[hR,b_,Ď];rfl
 have lz:∀z∈zs,z<ē:=λz mz=>bu (hz z mz);have nL:L ∉ zs:=Įr
 have nR:Rs ∉ zs:=Įr
 ext b;have LR:L≠Rs:=ø
 have S0:Ld s2 L zs b ÿ row Ą5:=(L2',λi z h=>IP.2 _ _ (hz z (øC h)))
 let⟨bn,s',e,R,q,y7,rfl,h1,h2,h3,h4⟩:=uV (t:=ĖJ) (body:=rdB)
  (λZ st=>∃(T R:ú)(q:ŧ)(y7:ć),ħu/\Ld st L zs b ÿ T q/\ņE/\Ćn/\Xn s2 st)
  Ĵw
  (λZ st=>∃(R:ú)(q:ŧ)(y7:ć),ħu/\Ld st L zs b ÿ [] q/\ņE/\Īu/\Xn s2 st)
  (by
   rintro Z st ⟨T,R,q,y7,rfl,S,hRs,I,x⟩;have Mr:=zK (Z:=Ħj) (m:=fI) ÿN rfl;by_cases ne:T=[]
   .ext jp;rw[ne]at S I;exact .inl (st,Mr,R,q,y7,rfl,S,hRs,I,x)
   .ext lG;refine .inr ?_;let⟨s3,T',q',e3,S3,I3,x3,z3,l3,h3⟩:=Iu hp p2 hv hm W X nz nL ((St.to IP.n).to x) S I eG;have R3:s3[Rs]?=ČM:=z3 _ _ (λy=>LR ąc) nR hRs;have adh:=zK (Z:=Ħj) (m:=fI) ĉ2 rfl;obtain⟨t0,m0⟩:∃t0,t0∈T:=by
     cases T with
     |nil=>ext dp
     |cons t T=>exact(t,ċ)
    have k0:=pN (b:=b) (w:=v+1) m0;rcases h3 with h3|⟨t,mt,em,mx,hn⟩
    .rw[decide_eq_false (by rw[h3];simp)]at adh;refine(st,_,s3,Mr,.inl ?_,(T',R,q',y7,rfl,S3,R3,I3,x.trans x3),?_)
     .ac_rfl
     .show rZ L s3<ģ2;rw[jO ĉ2,jO ÿN,h3];show 0<_;ext c
    .have neT:T'≠[]:=λy=>by rw[y]at mt;cases mt
     rw[decide_eq_true neT]at adh;ext eZ
     ext gG;let⟨I4,bl⟩:=I3.toR W hm hv mt mx hn;let⟨s4,qG⟩:=NE (ĔK L ĬP)
     have R4:s4[Rs]?=ČM:=by rw[qG];exact aV R3 LR
     let⟨s5,ni⟩:=NE (s4.set Rs (.dK (Ķw)))
     have x4:Xn s3 s4:=by rw[qG];exact ąp ĉ2
     have x5:Xn s4 s5:=by rw[ni];exact ąp R4
     have po:=FY W hm hv I3.oT ĉ2 mt hk;have s0:=ĉ2;have lq:=I3.oR.len W;have pw:m_ ľW Łb ý8=Ķw:=by
      rw[ŃQ,Ŋ,hk]
      .rfl
      .rw[ğ]at y;let⟨u,mu,e⟩:=Ĕ y;have e2:Ĥe:=by ext af;rw[hk]at e;exact ĿX e
       have:=I3.aR u mu t mt;ext c
     subst qG;refine(st,_,s5,Mr,.inl (ęq),(gz T' t.1,R++[t],q',some ý',rfl,(ęq,Ń7),?_,I4,x.trans (ĉN (ĢW x5))),?_)
     .have my:=øC hy;rw[ni];exact aV (aV (S3.RF i y hy) (ņ0)) (λe=>nR ĩ7)
     .rw[ni];exact ő (bu R4)
     .show rZ L s5<ģ2;have L5:s5[L]?=some ĬP:=ęq
      rw[jO L5,jO ÿN];have k1:=t7 bl;ext kz;ext c)
  [qI p, ûD, qL D, qL M, qL Q, qL L, qL Rs, qn] s2 (row,[],Ą5,none,rfl,S0,R2,GI.start oR hk,Xn.refl)
 ext a;refine(s',Rs,R,q,?_,h2,h3,IP.n.trans h4,h1.RF);have dc:H! [ĊA] s=.ok āR s1:=by unfold H!;ext d;rw[show gu s D=some Đz by unfold gu;rw[hD],b_,hL]
 subst cO hR;unfold _E.dC
 ac_rfl
open e
def RG[10][84][34](t:Tm)(bk:Int)[145]:ú:=((ts.filter λu=>Ĵ0).map ĞJ)
abbrev tcT:MT:=Ĭg
abbrev tcE:ME:=ĦR
section
variable[1][11]
theorem FZ{s:ai}[151]{t:Tm}{bk:Int}[162][25][348](hm:s[m]?=some (.ins "Monic" [%["top"|Ąj],ľN])):∀[332],
  aY gd ăb tcT tcE āX [x, y, qI p, qL m] s ys=.ok (ys++(RG b w p t bk ts).map Ĉ9) s
 |[],x,y,ys=>by show ıO;rw[iA hg];simp[RG]
 |u::ts,x,y,ys=>by
  have ih:=λzs=>FZ hg hp h1 h2 hm ts (some īZ) Ł1 zs;unfold RG at ih⊢;by_cases z:ýj=ùm
  .have ne:Ľ0=û_:=by rw[z,rR,beq_self_eq_true];rfl
   rw[Āe (by ext bm;exact λh=>h z)];exact RE hg ŀ rfl (ih ys)
  .have ne:Ľ0=ÿi:=by rw[rR,ú2 (λq=>z ø)];rfl
   have ml:du ĚV (Ēq) s=.ok ķB s:=mul_r h1 h2;have md:cw ķB ċg s=.ok (.int (ĔM % p)) s:=ĽX
   rw[Āf (p:=λu:Tm=>Ĵ0) (ćL)];have:=ih (ys++[qD b w (kJ p bk u)]);rw[Į]at this;exact fW (v:=ÿW) hg ŀ rfl ŀ this
open e
def Iv[1]{m d:Nat}[188][49][32](hmn:aj<=8)(ne:ts≠[])(hl:üf<=1000)(ft:Ĝa)(nd:(øK ď).Nodup)(nm:∀t∈ts,ăi)(hm:s[m]?=some (.ins "Monic" []))(hd:s[d]?=ěs):
  ∃(s':ai)(t:Tm)(bk:Int)(l:Nat),_E.dB [āB,øx,Ĕn] s=ĐY/\t∈ts/\(∀u∈ts,ēd)/\(s'[m]?=some (.ins "Monic" (DZ ĕk bk l))/\s'[l]?=some (.lst īD))/\(0<bk/\bk<p/\bk*t.2 % p=1)/\û0/\∀[7](x:aH),n≠m->n≠d->ùF=ī->Ċ4=ī:=by
 ext b;ext dk;ext a;have nmd:m≠d:=λz=>by rw[z,hd]at hm;cases hm
 ext b;let⟨t,mt,em,mx⟩:=BS hd ne;ext eZ
 ext gG;let⟨s1,b_⟩:=NE (ź m ĖW)
 ext a;have m1:s1[m]?=some ĖW:=by rw[b_];exact ő (bu hm)
 have d1:s1[d]?=ěs:=by rw[b_];exact aV hd nmd
 ext b;have c12:=nm t mt;have nz:¬ t.2 % p=0:=by rw[Ć6 ø c12.2];ext c
 let⟨g,bk,e2,INV⟩:=zA hp nz s1;let⟨s2,cO⟩:=NE (s1++g)
 ext a;have m2:s2[m]?=some ĖW:=by rw[cO];exact dM m1 _
 ext b;let⟨s3,jT⟩:=NE (ĊY m ĤV)
 ext a;have m3:s3[m]?=ĢR:=by rw[jT];exact ő (bu m2)
 have d3:s3[d]?=ěs:=by rw[jT,cO];exact aV (dM d1 _) nmd
 ext b;have inj:∀u∈ts,ĺS:=λu mu y=>ik ńy ńx hmn ø y;have e0:k_ üj ý' s1=.ok ý8 s1:=by
  unfold k_ kE;ext d;rw[d1];show(match(some (j! Ďl đz):ĜF) with|some (ī)=>Ŝ x s1|_=>.bad)=_;rw[hk,mX inj];have g:=ir nd mt;unfold dG at g;cases hf:ts.find? Ĳ_ with
  |none=>exact ĺo
  |some u=>
   ext jq
 let⟨s4,qG⟩:=NE (ĔK d ńi)
 have e4:lK bB [qL m, qI p, qL d] s3=.ok (øK ćY,Įp) s4:=by rw[<-Me,qG];show(match s3[d]? with|úJ=>Ŝ ĉa (ĔK d ĉm)|þP=>.ok ĉa s3|_=>.bad)=_;rw[d3];rfl
 ext a;have m4:s4[m]?=ĢR:=by rw[qG];exact aV m3 (øv nmd)
 ext b;let⟨s5,ni⟩:=NE (s4++[ą īD])
 ext a;have m5:s5[m]?=ĢR:=by rw[ni];exact dM m4 _
 have cp:=FZ (s:=s4) (gd:=Įp) (p:=p) (bk:=bk) (by rw[qG];exact iZ d3) ø ø ø (by rw[<-hk];exact m4) ts none none [];refine(s5.set m (.ins "Monic" (DZ ĕk bk ýG)),t,bk,ýG,?_,mt,mx,(iZ m5,?_),INV,?_,λn x h1 h2 e=>?_)
 .subst b_ cO jT ni;rw[<-hk];unfold _E.dB
  ac_rfl
 .refine aV (by rw[ni];exact dF s4 _) ĉb;have:=bu m4;ext c
 .rw[Ŕ,ni,Ď,qG,Ŕ,jT,Ŕ,cO,Ď,b_,Ŕ];ext c
 .have n1:m≠n:=λz=>h1 øP;have n2:d≠n:=λz=>h2 øP;refine aV ?_ n1;rw[ni];refine dM ?_ _;rw[qG,jT,cO,b_];exact aV (aV (dM (aV e n1) _) n1) n2
structure Jc where
 m:Nat
 bk:Int
 z:Nat
 ts:ú
 rs:ú
def Qx[10](aj w:Nat)[34](s:ai)(j:Jc):Prop:=(((∃k l,s[j.m]?=some (.ins "Monic" (DZ k j.bk l)))/\0<j.bk/\j.bk<p)/\gu s j.z=some (Ģy ûR)/\(∀t∈j.ts,ăx)/\(Ģy Ģ9).Nodup/\j.rs.Perm (Ģy (kJ p j.bk))/\ķp/\j.ts.length<=100000)
def BV[1][11][76][188]{m:ME}[85][472](h:ļh):∃s0,lK m Z s=.ok (Čy,Įq) s0/\s0[d]?=ľa/\Xr s s0:=
 let⟨s0,e,g,x,_⟩:=Mc hm h
 (s0,by rw[e,<-Me];rfl,g,x)
def wF[1][11][76]{bk:Int}[188][25][348](hd:ļh)[325][495]:
  ∃(u:Nat)(s':ai),_E.cy [øx,Ĕn,Ēq] s=Ď3/\ĔH=some (ĿK)/\ĉ4:=by
 ext b;let⟨s0,e0,g0,x0⟩:=BV (m:=bo) (Z:=[đc,some üj,some (Ēq)]) rfl hd;have cp:=FF (b:=b) (w:=w) (gd:=Įq) g0 hp h1 h2 ts none none [];let⟨s1,b_⟩:=NE (s0++[ą Ņk])
 have dc:Bt [.loc s0.length] s1=.ok þ7 (s1++[ĿK]):=by unfold Bt;ext d;rw[show ar s1 s0.length=some Ņk by rw[b_];exact br s0 _];ext d;rw[zI];ext d;rw[aaL (by rw[ğ];exact nd)]
 ext aN;ext a;exact(_,_,by unfold _E.cy;ac_rfl,đQ,ĢV (Ďm).r)
def ye[76][1]{ts rs:ú}[215][9][12](P:ćq)(hd:gu s d=some Ďl)(h:Ĝa)[495](hp:rs.Perm ts)(hf:ŀM):
  ∃(u:Nat)(s':ai),ċA [Ġ,Ĕn] s=Ď3/\ĔH=some (.lst (ý3 tM))/\ĉ4/\ē<=u:=by
 ext b;let⟨s0,e0,g0,x0⟩:=BV (m:=bo) (Z:=[ĐB,some üj]) rfl hd;let⟨s1,e1,x1⟩:=FG hv v1 hm ts s0 none none [] g0 (x0.n.at_ _ _ trivial P) h;have Rw:ŀ5:=λt mt=>(h t (hp.mem_iff.mp mt)).1;have fi:=Mg Rw hf;have pk:(ý3 Mf).Perm (øK Mf):=hp.map _;have nd:(øK Mf).Nodup:=pk.nodup_iff.mp (lI fi);have es:rS (øK Mf)=ý3 Mf:=Bm ((eO _).trans pk.symm) (qv nd) fi;have el:∀l:ú,(øU Mf).map (Cy true)=øU tM:=λl=>by rw[ğ];exact ùP λt _=>aaM t
 have so:=Fh (m:=aj+1) (by rw[el];exact br s1 _) nd (λk mk=>by
  let⟨t,mt,rfl⟩:=Ĕ mk;unfold Mf iE;rw[Ď,č,(h t mt).1];rfl) (by ext ae;ext c)
 rw[es,el]at so;have x02:=(úB (üK [ą ĉr])).r;ext a;exact(_,_,by unfold ċA;ac_rfl,đQ,ĢV (x02.trans (Ās).r),(ĢV x02).n.len)
section
variable[1]{M Q S:Nat}
def Mt{j:Jc}{W:dQ}[25][57][215][9][12](P:ćq)(J:ĸh)(hS:Told s S W)(hl:Ř<=1000):
  ∃(u:Nat)(s':ai),ade Ĩb s=.nx Ĩb s'/\ĠH/\Told s' S Łz/\ē<=u:=by
 ext b;let⟨⟨⟨k0,l0,m2⟩,m4,m5⟩,j2,j3,j4,j5,j6,j7⟩:=J;let⟨d,s1,e1,d1,x1⟩:=wF (bk:=j.bk) hp ø ø j2 j4 j7;let⟨u,s2,e2,u2,x2,l2⟩:=ye hv v1 hm m1 (x1.n.at_ _ _ trivial P) (mV d1) (λt mt=>by
  let⟨q,mq,rfl⟩:=Ĕ mt;exact j3 q mq) (by ext w;exact j7) j5 j6
 have IP:=úS;have S2:=IP.n.at_ S Łj trivial hS.1;ext a;refine(u,ĊY S (.lst (wV W++[.loc u])),?_,IP.q.trans (Xq.set S2),(?_,λy hy=>?_),by have:=x1.n.len;ext c)
 .have h0:=hS.1;have lw:ĻC<1000000:=by ext cp;ext w;ext c
  ac_rfl
 .rw[ő (bu S2)];ext cp;rw[Ŋ];rfl
 .have lS:=bu hS.1;have:=x1.n.len;ext fw
  .let⟨h1,h2⟩:=hS.2 y hy;exact(h1,aV (IP.n.at_ _ _ trivial h2) ø)
  .rw[ţ hy];exact(by show S<u;ext c,aV u2 (by show S≠u;ext c))
theorem BW{A B:ý}[25][57][215][9][12](hMS:M≠S)(hqS:Q≠S):∀(js:ēB)(s:ai)(W:dQ)(y5 y6:ć),ĊJ=some A->ar s Q=some B->ćq->(ėk)->Told s S W->Ř+đY<=1000 ->
  ∃(W':dQ)(s':ai)(y5' y6':ć),forL (λbP=>ar bP M=some A/\ar bP Q=some B) ĶA ade (ŃV) [qI p, qL n, qL M, qL Q, qL S, y5, y6] s=.nx [qI p, qL n, qL M, qL Q, qL S, y5', y6'] s'/\ĠH/\Told s' S (W++W')/\W'.map ŗ=ņT/\(∀x∈W',ē<=x.1)/\W'.Pairwise Ėt
 |[],s,W,y5,y6,hA,hB,_,_,hN,_=>([],s,y5,y6,c! (hA,hB),Xr.refl.q,by ext ad;exact hN,rfl,(λx m=>ùt),.nil)
 |j::js,s,W,y5,y6,hA,hB,P,hj,hN,hl=>by
  rw[ă]at hl;have h1:=hj j ċ;let⟨u,s1,e1,x1,n1,lu⟩:=Mt hp p2 hv v1 hm m1 P h1 hN ø;have cS:∀[64]{c:aH},s[i]?=ň->(∀us,c≠ÿa)->i≠S:=λ{i c}e ne z=>by rw[z,hN.1]at e;exact ne _ (Ăc).symm
  have it:∀[64][6],i≠S->ar s i=đ->ar s1 i=đ:=λ{i us}ne h=>by let⟨c,g1,g2,g3⟩:=pH h;exact g3 s1 (x1.at_ _ _ ne g2 g1)
  let⟨W',s2,y5',y6',e2,x2,n2,l2,g2,w2⟩:=BW hp p2 hv v1 hm m1 hMS hqS js s1 Łz (some (.loc j.m)) (some (.loc j.z)) (it hMS hA) (it hqS hB) (x1.at_ _ _ (cS P ğK) trivial P) (λk mk=>by
   let⟨⟨ľD,a3⟩,a4,a5⟩:=hj k łn;exact(((k0,l0,x1.at_ _ _ (cS a1 ğK) trivial a1),a3),x1.dk _ _ a4,a5)) n1 (by ext ak;show Ř+1+đY<=1000;ext c)
  rw[Į]at n2;refine(Ĝb::W',s2,y5',y6',?_,úS,n2,by rw[Ą,Ą,l2],đp,ė_ (λy my=>?_,w2))
  rotate_left
  .ext fm
   .exact lu
   .have:=g2 x mx;have:=x1.len;ext c
  .have h3:=bu (n1.2 Ĝb (üX _ ċ)).2;exact ľ h3 (g2 y my)
  ac_rfl
open e
theorem F0:∀(js:ēB),kY ču čv=ŃV
 |[]=>rfl
 |j::js=>by show ħK::kY ču čv=_;rw[F0 js];rfl
section
variable[1][243]
def Mu{js:ēB}[25][57][215][9][12](P:ćq)(hM:ĊJ=some ču)(hQ:ar s Q=some čv)(hj:ėk)(hl:đY<=1000):
  ∃(S:Nat)(W:dQ)(s':ai),_E.cm [øx,Ġ,āA,ĊB] s=.ok (ý5) s'/\ĉ4/\ē<=S/\ŅR/\W.map ŗ=ņT/\ěo:=by
 ext b;let⟨S,hS⟩:=NE ē
 ext bN
 ext a;ext W
 ext b;have lM:=pF hM;have lQ:=pF hQ;let⟨W,s2,y5,y6,e2,x2,n2,l2,_,w2⟩:=BW (S:=S) hp p2 hv v1 hm m1 ø ø js s1 [] none none (ûp hM) (ûp hQ) Ľc (λj mj=>by
  let⟨⟨ľD,a4⟩,a2,a3⟩:=hj j mj;exact(((k0,l0,x1.2 _ _ a1),a4),x1.r.dk _ _ a2,a3)) (by rw[b_,hS];ext B,λx m=>ùt) čV
 ext a;refine(S,W,s2,?_,((ģ x1.1 x2.len,λi c h e=>x2.at_ i c ĕi h Ľd),λz l h=>x2.dk z l (x1.r.dk z l h)),ø,n2,l2,w2);have M1:=ûp hM;have Q1:=ûp hQ;subst b_ hS;rw[<-F0]at e2;unfold _E.cm
 ac_rfl
open e
structure IQ[159][34][10](r:ú):Prop where
 ne:r≠[]
 len:úb<=100
 fit:∀t∈r,ăx
 num:∀t∈r,ăi
 nd:(r.map ď).Nodup
 wle:∀v,ċl->∀t∈r,∀u∈r,ēd->wt u.1<=wt t.1
def wG[10][84][34](x:Md)(r:ùB):Prop:=(x.t∈r.2/\(∀u∈r.2,ýj<=ĈW)/\x.tl=RG b w p x.t x.bk r.2)
section
variable[1]
def Mv{cU:Nat}{r:ùB}[49][32](hv2:v<63)[9](P:ĸe)(hq:ùW)(F:Č3):
  ∃(x:Md)(s':ai),moE [qL r.1, qL n, qI p] s=.ok Łi s'/\Ĵ/\BR s' b ÿ x/\ěu/\Ăt:=by
 have kn:(Ēs λt=>ùN).Nodup:=by refine ĂP (Ād ėa (ûV F.nd));exact ik (ċo a ma) (ċo c mc) hm ø e
 have e1:=pI P ø hq (λt mt=>(λe m=>by have:=(Ğ6).2 e m;ext c,by rw[(Ğ6).1];exact hm)) kn įa;ext b;let⟨s1,b_⟩:=NE (s++[ą (Ēs ćY),ĿJ])
 rw[<-b_]at e1;ext a;ext W
 ext b;have hd:s1[Ăe]?=some (ĿJ):=by rw[b_,ē_,show Ăe-ē=1 by ext c];rfl
 let⟨s2,cO⟩:=NE (s1++[aH.ins "Monic" []])
 let⟨s3,t,bk,l,e3,mt,mx,m3,i3,l3,k3⟩:=Iv (s:=s2) hp hv hm F.ne įa ċo F.nd F.num ĘW (by rw[cO];exact dM hd _);ext a;refine((úw,t,bk,l,RG b ÿ p t bk r.2),s3,?_,(by ext bA;rw[cO,Ď]at l3;ext c,λi c e=>k3 i c ?_ ?_ (by rw[cO];exact dM Ľd _)),m3,(mt,mx,rfl),(Ğ6,i3,üa))
 .refine L8 (Qe rfl ?_) (by rw[<-cO];exact e3);rw[Fs rfl P ù4 rfl,e1]
 .ext bz;ext bA;ext c
 .ext bz;ext c
 .ext b;let⟨w,mw,rfl⟩:=Ĕ mu;let⟨m1,m2⟩:=ûW mw;have le:=mx w m1;have ne:=ĘN;ext a;exact(ċo w m1,F.wle v hv t mt w m1 le,by show aC b ÿ w.1<ùN;ext c)
theorem BX{R n cU g:Nat}[6][49][32](hv2:v<63)[9]:∀[52](s:ai)(ms:ým)[54],Ā4->ĸe->(∀r∈rows,ùW/\Č3)->(∀m∈ms,BR s b ÿ m) ->
  ∃(ms':ým)(s':ai),aY þs ĩ aU moE úk [x, qL n, qI p] s (Qv ms)=.ok (Qv (ms++ms')) s'/\Paired ļ' ms' rows/\Ĵ/\(∀m∈ms++ms',BR s' b ÿ m)/\∀m∈ms',Mq aj wt b ÿ p m
 |[],s,ms,x,hR,_,_,hM=>([],s,by show Ę6=_;rw[iA hR,ń],.nil,úP,by ext ad;exact hM,λm q=>ďn)
 |ýW,s,ms,x,hR,P,hr,hM=>by
  ext b;ext fs;let⟨m,s1,e1,x1,m1,o1,f1⟩:=Mv hp hv hv2 hm P h1 h2;let⟨ms',s2,e2,l2,x2,m2,f2⟩:=BX hp hv hv2 hm rows s1 ńL ċh ĉt (P.to x1.d) (λq h=>(x1.2 _ _ ĶB.1,ĶB.2)) (λq h=>by
   ext np
   .exact(hM q h).to x1.n
   .rw[ţ h];exact m1)
  rw[Į]at e2 m2;ext a;refine(m::ms',s2,?_,Ċ o1 l2,úS,m2,λq h=>?_)
  .rw[Ą,qA hR ĔY e1];have:Qv ms++[.loc m.m]=Qv ńL:=by unfold Qv;rw[Ŋ];rfl
   ext aK;exact e2
  .rcases ŏ h with rfl|h
   .exact f1
   .exact f2 q h
open e
def r6[147]:ú:=(l.mergeSort λa c=>Li Ēk ğ3)
def kA[147]:(r6 l).Perm l:=ĴG l _
def l9[150](nd:(Ĥg).Nodup):øB (ŁZ þI):=by
 have h1:(r6 l).Pairwise λa c=>Li Ēk ğ3=true:=by
  refine İV Ĳw ĿH l
  .ext jE;by_cases e1:iE a.1=iE b.1
   .rw[e1];ext ai
   .by_cases e2:iE b.1=iE c.1
    .rw[<-e2];ext an
    ext iE
  .unfold Li;cases z:Ň Ēk (iE b.1) with
   |false=>rfl
   |true=>rw[ċF z];rfl
 have h2:(ŁZ ď).Nodup:=((kA l).map _).ďT nd;unfold øB;rw[ęF];refine ćo (λ{a c}h=>?_) (h1.and (ûV h2));have z:Ň Ēk ğ3=false:=ħ4
 exact ċE (λe=>h.2 (vA e)) z
theorem vD{R:Nat}[6]{s:ai}{x:ć}(hR:Ā4):∀[52][41],(įP) ->
  ∃y',forL þs ēi ĕn úk ÿQ s=.nx [x,y'] s
 |[],y,_=>(y,c! hR)
 |ýW,y,h=>by
  ext my;let⟨y',e⟩:=vD hR rows ċh ďz;have eq:jc (.int ((ć8).length:Int)) ùg s=û_:=by have:=İU h2;rw[rQ,ú2 ĘB]
  exact(y',dD hR ŀ rfl e)
def Mw(hR:Ğc)(h:įP):ąR ċy s=.ok .cq s:=by
 let⟨y,e⟩:=vD hR rows none h;unfold ąR
 ac_rfl
structure wH[159](Wm:Nat)[34][10][240][52][106](S T:Nat)(W:dQ)[374][141](R:ú)(q:ŧ)(v:Nat):Prop where
 x:úd
 told:ŅR
 F5:s'[T]?=ĕ0
 rp:rest.Perm R
 rf:øB (ĢK þI)
 gi:GI aj wt Wm p b ÿ (pM Đz) row mo [] R q
 hv:ċl
 md:ĭ8
 mf:ďZ
 wl:Ř=þ5
 wq:∀[5](x:Md)(w:ùB),Ĉ1->ăH->w.2.Perm ċd/\øB (w.2.map þI)
 lS:ē<=S
 lT:ē<=T
 wd:ěo
 wt_:∀x∈W,x.1<T
 st_:S<T
theorem RH{aj Wm:Nat}{wt:ĄP}[204][1]{v:Nat}{s:ai}{q:ŧ}[43][9][32](oq:İA):∀[141][252][5],Ĥi->(∀x∈mo,BR s b ÿ x/\Ăt) ->
  (∀j z,zs[j]?=ąz->gu s z=some (Ļv øh)) ->
  ∃js:ēB,ÿE ģg=mo.map ģg/\ÿE (·.z)=zs/\(ėk)/\đY=þ5/\∀[22](x:Md)(j:Jc),mo[k]?=ī->js[k]?=úi->j.rs.Perm ((q (i+k)).map Ĝl)/\ķp
 |[],[],i,_,_,_=>([],rfl,rfl,(λj m=>ùt),rfl,λk x j h=>ûh)
 |x::mo,z::zs,i,hz,ha,hq=>by
  ext b;let⟨js,j1,j2,j4,j5,j6⟩:=RH W hm hv oq mo zs Ē (Ău hz) (λy my=>ha y ło) (λj y e=>by
   have:=hq Ķ y ıu;rw[Į2];ext n)
  let⟨xa,xf⟩:=ha x ċ;have g2:=hq 0 z rfl;have o:=oq i;have ft:∀t∈q i,ăx:=λt mt=>o.fit W mt;ext a;have ndm:((ĥo).map ď).Nodup:=by rw[ğ];exact o.nd
  have pf:(r6 ċd).Perm ċd/\øB ((r6 ċd).map þI):=(kA _,l9 ndm)
  refine((x.m,x.bk,z,q i,r6 ċd)::js,by rw[Ą,Ą,j1],by rw[Ą,j2],λj mj=>?_,by rw[ă,ă,j5],λk y j hy hj=>?_)
  .rcases ŏ mj with rfl|mj
   .refine(((_,_,xa.1),xf.bk.1,xf.bk.2.1),g2,ft,?_,pf.1,pf.2,ģ (o.len W) ø);refine ĂP (Ād ėa (ûV o.nd));exact ik (ft a ma) (ft c mc) hm ø e
   .exact j4 j mj
  .cases k with
   |zero=>cases hy;cases hj;rw[ûg];exact pf
   |succ k=>
    rw[show i+øe=i+1+k by ext c];exact j6 k y j hy hj
def BY[49][390](hl:Ĉ2<=100)(Rw:ĔT)[12][9]:
  ∃(S T:Nat)(s':ai)(W:dQ)(rest:ú)(mo:ým)(Rl:ú)(q:ŧ)(v cU:Nat),_E.eV čF s=Ĝv/\(cU=aj\/ļl)/\wH cU wt Wm p d row rows s s' S T W rest mo Rl q v:=by
 ext b;ext dk;let⟨s1,b_⟩:=NE (s++[ą [Ā7]])
 let⟨s2,cO⟩:=NE (s1++[ą ([Ā7]++Ăi)])
 ext a;ext W
 ext b;have x2:ĉ5:=úB (ĺu);let⟨rg,hrg⟩:=NE (%[q0|row]::rows:dQ)
 have fm:rg.flatMap ŗ=row++Ă4:=by rw[hrg,Ă9]
 have hg:Fy s2 úw rg:=by
  refine(?_,λr mr=>?_)
  .rw[cO,hrg,br,Ą];rfl
  .rw[hrg]at mr;rcases ŏ mr with rfl|mr
   .exact ņG
   .exact ľg
 have WW:=hW aj út;have lfm:∀l:dQ,(∀r∈l,đa<=100)->(l.flatMap ŗ).length<=100*Ÿ:=by
  intro l
  induction l with
  |nil=>intro _;ext as
  |cons r l ih=>
   intro h;rw[Ă9,Ď,ă,û'];have:=ģR;have:=ih ďz;ext c
 let⟨n,cU,v,s3,e3,x3,P3,ln,v1,v2,mm,em⟩:=sN (d:=d) hg (aj:=aj) (λt mt=>by
  rw[fm]at mt;ext mu
  .exact oR.fit WW mt
  .let⟨r,mr,mt⟩:=č2 mt;exact ûq.2.fit t mt) m1 hm (by
  have:=lfm rows λr m=>(hr r m).2.len;rw[fm,Ď];ext c)
 ext a;have m1':1<=cU:=by rcases em with e|e<;>(ext aw)
 ext b;have em':cU=aj\/cU=1/\ļl:=by
  rcases em with e|⟨e0,e⟩
  .exact ÿF
  .rw[fm]at e;let⟨a1,a2⟩:=įn e;refine .inr (e0,a1,?_);cases rows with
   |nil=>rfl
   |cons r rows=>
    rw[Ă9]at a2;exact absurd (įn a2).1 Ĉp.2.ne
 have W':jB cU wt Wm:=hW cU (by ext mf;exact .inr e.1);have oR':nq cU wt Wm p row:=by
  rcases em' with e|⟨_,e,_⟩
  .rw[e];exact oR
  .rw[e];exact ĶM
 have rF':∀r∈rows,IQ cU wt p d r.2:=λr mr=>by
  rcases em' with e|⟨_,_,e⟩
  .rw[e];exact ûq.2
  .rw[e]at mr;cases mr
 have R3:=a! (x3.2 _ _ (x2.2 _ _ hR));let⟨mo,s4,e4,t4,x4,a4,f4⟩:=BX (us:=Ăi) (wt:=wt) (v:=v) hp v1 v2 mm rows s3 [] none R3 P3 (λr mr=>(x3.2 _ _ (ľg),rF' r mr)) (λm q=>ďn);rw[Ž]at e4 a4;let⟨s5,ni⟩:=NE (s4++[ą ġr])
 ext a;ext nb
 ext b;have R5:=x5.items (x4.items R3);let⟨s6,e6,x6,z6⟩:=FK (us:=Ăi) úk s5 [] none R5;let⟨zs,hzs⟩:=NE (ćp ÿc (Ăi).length)
 rw[<-hzs,Ž]at e6;rw[<-hzs]at z6;let⟨s7,wI⟩:=NE (s6++[ą ēm])
 ext a;ext eE
 have x57:=ēb x7;have x47:=ĢX x57;have x37:=ĢW x47;have P7:=x37.2 _ _ P3;have q7:s7[q0]?=þg:=x37.2 _ _ (x3.2 _ _ (ņG));have kn:(þx λt=>aC d ÿ t.1).Nodup:=by refine ĂP (Ād ėa (ûV oR'.nd));exact ik (ģY W' ma) (ģY W' mc) mm ø e
 have e8:=pI (ts:=row) P7 ø q7 (λt mt=>(λe me=>by have:=ķR.2 e me;ext c,by rw[ķR.1];exact mm)) kn ø;ext b;let⟨s8,Iw⟩:=NE (s7++[ą (þx (qD d ÿ)),ĳB])
 rw[<-Iw]at e8;ext a;have x8:Xt s7 s8:=ĺs
 have x48:=x47.trans x8;have lmo:þ5=Ŭ:=ăA t4;have lzs:Ĥi:=by rw[hzs,ĶZ,č,lmo]
 have St:Sd s8 ýG đ7 mo zs d ÿ:=((x57.trans x8).items (a! ĳm),λx mx=>(a4 x mx).to x48.n,x8.items (a! ĳn),lzs)
 have nz:Ģ0:=by rw[hzs];exact List.nodup_range'
 ext b;have D8:s8[ĉi+1]?=some (ĳB):=by rw[Iw,ē_,show ĉi+1-ĉi=1 by ext c];rfl
 let⟨s9,Rs,Rl,q,e9,r9,I,x9,q9⟩:=Ms (p:=p) ø ø v1 mm W' f4 nz oR' (λt mt=>pN mt) St D8 (λz mz=>(ņH).2 _ _ (z6 z mz)) rfl;have St9:=St.to x9;let⟨js,j1,j2,j4,j5,j6⟩:=RH W' mm v1 I.oq mo zs 0 lzs (λx mx=>(St9.at_ x mx,f4 x mx)) (λj z e=>by
  rw[Ť];exact mV (q9 j z e))
 have P9:Pk s9 n d cU ÿ ĬS:=x9.at_ _ ĳg trivial (x8.2 _ _ P7);have hM9:ar s9 ýG=some ču:=by
  rw[St9.mon];have:ÿE (Ń8)=(ÿE ģg).map ž:=ĠN
  rw[this,j1,ğ];rfl
 have hQ9:ar s9 đ7=some čv:=by rw[St9.RF,<-j2];ext aW;ext aT
 let⟨S,Wl,yf,e10,Ni,lS,W10,w10,aeO⟩:=Mu ø ø v2 ø mm m1' P9 hM9 hQ9 j4 ø;let⟨T,D5,e11,T11,x11,lT⟩:=ye v2 ø mm m1' (Ni.n.at_ _ _ trivial P9) (Ni.dk _ _ (mV r9)) (λt mt=>I.oR.fit W' mt) (ģ (I.oR.len W') ø) (kA _) (l9 I.oR.nd);have xA:Xn s s9:=(üp (ĉN (x37.trans x8))).n.trans x9;ext a;have lW:Wl.length=þ5:=by have:=congrArg ýs w10;ext gc;ext c
 refine(S,T,D5,Wl,r6 Rl,mo,Rl,q,v,cU,?_,by ext mf;exact .inr e.2,(xA.trans (Ni.n.trans x11.n),(x11.n.at_ _ _ trivial W10.1,λx mx=>(ěG.1,x11.n.at_ _ _ trivial ěG.2)),T11,kA _,l9 I.oR.nd,I,v1,t4,f4,lW,λi x w hx hw=>?_,by have:=xA.len;ext c,by have:=xA.len;have:=Ni.n.len;ext c,aeO,λx mx=>by have:=bu ěG.2;ext c,by have:=bu W10.1;ext c))
 rotate_left 1
 .have li:=(ùj hx).1;have ej:js[i]?=some (js[i]'()):=ħ _;have:=j6 i x _ hx ej;rw[Ť]at this;have e:w.2=(js[i]'()).rs:=by have:=congrArg (λl:List (ú)=>l[i]?) w10;simp only[ĭ,hw,ej]at this;exact ùQ this
  rw[e];ext n
 subst b_ cO ni wI;have P10:=Ni.n.at_ _ ĳg trivial P9;unfold _E.eV
 ac_rfl
open e _I
variable [151]
namespace _I
open PySem.Spec _A _D
open PyProof.Rows hiding St kindOf
open _K (dig)
def wj[13](h:ùw=2):∃x y,e=ÿQ:=by
 match e,h with
 |ÿQ,_=>exact ńW
def Dp[13](h:ùw=3):∃x y z,e=[x,y,z]:=by
 match e,h with
 |[x,y,z],_=>exact(x,y,z,rfl)
def AB:þ->ĄP
 |ā_,x::e=>w*x+ĉ0
 |_,_=>0
theorem F6:∀(ws e f:þ),ùT->ùw<=ûi->AB ws Ċ'=ĉ0+AB ws f
 |[],[],[],_,_=>rfl
 |[],_::_,_,_,h=>úa
 |ā_,[],[],_,_=>rfl
 |ā_,x::e,y::f,h,hl=>by show w*(x+y)+AB ws Ċ'=(w*x+ĉ0)+(w*y+AB ws f);rw[F6 ws e f ĄW ĬR,û'];ext c
theorem D9:∀(ws e:þ),(ľA)->ùw<=ûi->∀x∈e,x<=ĉ0
 |ws,[],_,_,x,m=>ùt
 |[],_::_,_,h,x,m=>úa
 |ā_,y::e,hw,hl,x,m=>by
  show x<=w*y+ĉ0;have h1:y<=w*y:=Nat.le_mul_of_pos_left y ŁO;ext ax
  .lia
  .have:=D9 ws e (λz mz=>hw z (š _ mz)) ĬR x m;ext c
theorem BZ:∀(N:Nat)(l:þ),l.Nodup->(∀x∈l,x<N)->Ÿ<=N
 |0,l,_,h=>by
  cases l with
  |nil=>ext K
  |cons x l=>exact absurd (h x ċ) Ė2
 |N+1,l,nd,h=>by
  have ih:=BZ N (Ė8) (nd.filter _) (λx m=>by
   let⟨m1,m2⟩:=ûW m;have:=h x m1;have:=ĘN;ext c)
  have c:∀l:þ,l.Nodup->Ÿ<=(Ė8).length+1:=by
   intro l
   induction l with
   |nil=>intro _;ext as
   |cons x l ih=>
    intro nd;rw[Ļ1]at nd;by_cases z:x=N
    .rw[Āe (by ext bm;exact λq=>q z)];have fe:(Ė8)=l:=İT λy my=>decide_eq_true λq=>nd.1 (by rw[z,<-q];exact my);rw[fe,ă];ext K
    .rw[Āf (p:=ĵb) (ćL),ă,ă];have:=ih nd.2;ext c
  have:=c l nd;ext c
def zP:ĄP
 |[]=>0
 |x::e=>ġb
theorem Mx:∀[40],(ěz)->zP e<21 ^ ùw
 |[],_=>by show 0<1;decide
 |x::e,h=>by have ih:=Mx e λy m=>h y ŕ;have hx:=h x ċ;show ġb<21 ^ (ùw+1);ext c
theorem F_:∀[236],ùT->(ěz)->(∀x∈f,x<=20)->zP e=zP f->e=f
 |[],[],_,_,_,_=>rfl
 |x::e,y::f,hl,h1,h2,h=>by have a:=h1 x ċ;have b:=h2 y ċ;have h':ġb=zP f*21+y:=h;rw[F_ e f Ąz Ĵx (ļC) ø,show x=y by ext c]
theorem aaQ{ws:þ}(hw:ľA)(h3:ûi=3)(hm:m<=3):jB m (AB ws) 20 where
 add:=λe f h1 h2=>F6 ws e f ø ø
 fit:=λe h1 h2=>(h1,λx mx=>by have:=D9 ws e hw ø x mx;ext c)
 cnt:=λT nd h=>by
  have le:∀e∈T,ěz:=λe me x mx=>by have:=D9 ws e hw Ĭt x mx;have:=(h e me).2;ext c
  have nd2:(úD zP).Nodup:=ĂP (Ād (λ{a c}ma mc ne e=>ne (F_ a c (by rw[(h a ma).1,(h c mc).1]) (le a ma) (le c mc) e)) nd);have:=BZ (21 ^ 3) (úD zP) nd2 (λx mx=>by
   let⟨e,me,rfl⟩:=Ĕ mx;have l1:=Mx e (le e me);have:21 ^ ùw<=21 ^ 3:=ü8 ø Ĭt;ext c)
  ext gv;ext c
def Nj[10][46]:þ:=(if øR then[1,1,1]else if aj=3 then[6,2,1]else if aj=2 then[4,1,1] else[1,1,1])
def d9[46]:Nat:=(if aj=1 then 8 else if aj=2 then 4 else 2)
def D_[1](hm:m<=3):jB m (AB đt) 20:=by
 refine aaQ (đo) ?_ hm
 .unfold Nj at mw;split at mw
  .ext fy
  .split at mw
   .ext fy
   .split at mw<;>(ext fy)
 .unfold Nj;split
  .rfl
  .split
   .rfl
   .ext dR
def aaR[1][139](hm:ė0)[231](h:ās)(k:ģU)(be:Ğd)(bf:∀x∈f,ĔQ)(le:Ģg<=Ģh):AB đt e<=AB đt f:=by
 have r:=vB (b:=b) k h ø hv;rw[ùo]at r;have r':(if Ľe=ď6 then Ň Ĕd āx else decide (Ľe<ď6))=false:=r.symm;have he:=h.1;have hf:=k.1;have lx:∀(x y:Nat)(a c:þ),Ň (iE (x::a)) (iE (y::c))=false->y<=x/\(x=y->ĸW=false):=λx y a c q=>by
  have q':(if ýS=ĄA then ĸW else ĺD)=false:=q;by_cases z:x=y
  .rw[øj]at q';exact(ø,λ_=>q')
  .rw[Ŗ,decide_eq_false_iff_not]at q';exact(ø,λw=>absurd w z)
 have sm:øR->ā4<=ą1:=λhb=>by
  unfold zM at r';rw[đT,đT]at r';by_cases z:(ą1:Int)=(ā4:Int)
  .lia
  .rw[ů,decide_eq_false_iff_not]at r';ext c
 have lex:b=false->Ň Ĕd āx=false:=λhb=>by unfold zM at r';rw[hb,ņ,ņ,Ī]at r';exact r'
 ext lA
 .ext id;obtain⟨y,rfl⟩:∃y,f=[y]:=įo hf;cases b with
  |true=>ext fq;show łA;ext c
  |false=>have:=lx y x [] [] ĞL;show łA;ext c
 .ext iL;obtain⟨y1,y2,rfl⟩:∃y1 y2,f=[y1,y2]:=wj hf;have b1:=đO;have b1':x2<=4:=b1;cases b with
  |true=>ext fq;show 1*x1+Ēi<=1*y1+(1*y2+0);ext c
  |false=>
   let⟨q1,q2⟩:=lx y1 x1 [y2] [x2] ĞL;show 4*x1+Ēi<=4*y1+(1*y2+0);by_cases z:y1=x1
   .have:=(lx y2 x2 [] [] (q2 z)).1;ext c
   .lia
 .ext ij;obtain⟨y1,y2,y3,rfl⟩:∃y1 y2 y3,f=[y1,y2,y3]:=Dp hf;have b2:x2<=2:=đO;have b3:x3<=2:=be x3 Ĉ;cases b with
  |true=>ext fq;show ĻP<=1*y1+(1*y2+(1*y3+0));ext c
  |false=>
   let⟨q1,q2⟩:=lx y1 x1 [y2,y3] [x2,x3] ĞL;show ĻQ<=6*y1+(2*y2+(1*y3+0));by_cases z:y1=x1
   .let⟨q3,q4⟩:=lx y2 x2 [y3] [x3] (q2 z);by_cases z2:y2=x2
    .have:=(lx y3 x3 [] [] (q4 z2)).1;ext c
    .lia
   .lia
def Qy[1][13](hm:ė0)(he:āK)(be:Ğd):AB đt e<=20:=by
 ext lA
 .ext id;have:x<=8:=be x Ĉ;cases b
  ext mF
  ext mF
 .ext iL;have:x1<=4:=be x1 Ĉ;have:x2<=4:=đO;cases b
  .show 4*x1+Ēi<=20;ext c
  .show 1*x1+Ēi<=20;ext c
 .ext ij;have:x1<=2:=be x1 Ĉ;have:x2<=2:=đO;have:x3<=2:=be x3 Ĉ;cases b
  .show ĻQ<=20;ext c
  .show ĻP<=20;ext c
def zQ[19][250][40]:ln (ĕ1) T=ûz:=by
 induction T with
 |nil=>rfl
 |cons t T ih=>
  ext cW;show(if üV then 1 else 0)*t.2+ln _ T=_;rw[ih nd.2];ext bW
  .rw[øO,pK z,fF (Ęs)];ext c
  .rw[ů,mW z];ext c
def gat:ŀN
 |[],T=>T
 |t::P,T=>ņc
theorem zR:∀(P T:ú),Āa->(Ļk ď).Nodup
 |[],T,h=>h
 |t::P,T,h=>zR P _ (by
  rw[BO];split
  .ext j
  .rename_i m;refine čB (h,ĂA,Ĵ_);ext mC)
theorem D![75]:∀(P T:ú),Āa->ln F (gat P T)=øm+ln F P
 |[],T,_=>by show øm=øm+0;ext c
 |t::P,T,h=>by have nd2:((ħ5).map ď).Nodup:=zR [t] T h;show ln F (ņc)=øm+(ĀI+ln F P);rw[D! P _ nd2,Mn h,show Ē3+t.2-Ē3=t.2 by ext c];ext c
theorem pO[40]:∀T:ú,c5 ĉs āx=ûz
 |[]=>rfl
 |t::T=>by
  rw[Ą];ext bW
  .rw[pK z];ext cn;rw[čp (by show ĵL;rw[z];exact ĂQ)];rfl
  .rw[mW z,<-pO e T];ext cn;rw[čo (by show ¬ ĵL;ext bm;exact λy=>z (vA y))]
def Qz[40][148][81]:jx ĉs āx v=ĶF cT:=by
 unfold jx putN;have ea:((úD cT).any λp=>decide (p.1=iE e))=ĠB:=by ext le;exact(λņ_=>(t,m,decide_eq_true (vA (ýc))),λņ_=>(t,m,decide_eq_true (by show Ģ3;rw[ýc])))
 rw[ea];ext dE
 .ext nT;ext fQ;show(if Ģ3 then%[āp|v]else cT t)=cT (Čz);ext gi
  .ext kK;rfl
  .rw[ĉH,if_neg (λq=>y (vA q))]
 ext nt
theorem zS:∀(P T:ú),Ŀv ė7 ĉs=Ļk cT
 |[],T=>rfl
 |t::P,T=>by show Ŀv _ (jx ĉs (āp) (c5 ĉs (āp)+t.2))=_;rw[pO,Qz,zS P];rfl
def My{P:ú}[25](S:û6)(h:∀F,Cq p (ln F P) (ĉI)):Đ9=Ċ3:=by
 ext kY
 ext iF
 have ndr:Ŀx:=by
  ext hT
  ext hJ
 ext js
 have gm:∀e,gy p (dG A e)=dG row e:=λe=>by
  have q:=h ĕ1
  have l1:ğs=dG A e:=ħL
  rw[l1,zQ ndr]at q;have:=q.eq;unfold gy;rw[Ŗ,Ćk,this];by_cases z:e∈Ēu
  .let⟨t,mt,rfl⟩:=Ĕ z;rw[ir ndr mt];exact Ć6 (by have:=Đ3;ext c) (Đ3).2
  .rw[fF z];exact Ĉb p
 rw[eg];have ndk:((ėw).map ď).Nodup:=by
  rw[ğ];have:ÿ0 (ĻN ∘ cT)=ń9 iE:=ĠN
  ext aK;exact ĸb iE (λa c ne e=>ne (vA e)) nA
 have fr:øB ((Ċ3).map ď):=by rw[ğ];exact S.Qq
 have mA:∀t:eZ,t∈jM p Ċ7 ↔t∈Ċ3:=λt=>by
  ext iD;ext D
  .rintro⟨⟨k,mk,rfl⟩,nz⟩;have mk':=ęg mk;rw[ğ]at mk';let⟨u,mu,rfl⟩:=Ĕ mk';show%[ĊQ|İn]∈_;replace nz:(İn !=0)=true:=nz;rw[pO,gm]at nz⊢;by_cases z:u.1∈Ēu
   .let⟨r,mr,e⟩:=Ĕ z;refine ăd (r,mr,?_);show%[ĊP|r.2]=_;replace e:r.1=u.1:=e;rw[<-e,ir ndr mr]
   .rw[fF z]at nz;cases nz
  .intro m;ext mn;have g:=gm r.1;rw[ir ndr mr]at g;have nr:=S.num r mr;have inA:r.1∈ü6:=by
    by_cases z:r.1∈ü6
    .ext o
    .rw[fF z]at g;unfold gy at g;rw[Ŗ,Ćk,Ĉb]at g;ext c
   let⟨u,mu,e⟩:=Ĕ inA;replace e:u.1=r.1:=e;refine((ĊP,İF,?_),?_)
   .rw[ğ];exact ăd (u,mu,by show ĊQ=_;rw[e])
   .show%[ĊP|gy p (c5 Ċ7 (ĊP))]=%[ĊP|r.2];rw[pO,g]
   .show(r.2 !=0)=true;rw[bne_iff_ne];ext c
 have f1:=vi p ndk;refine į9 ħz (ûV f1) (ûV fr) ?_;refine(List.perm_ext_iff_of_nodup ?_ ?_).mpr mA
 .exact ćo ĨO (ûV f1)
 .exact ćo ĨO (ûV fr)
def gg(Q B:ú):ú:=(Q.flatMap λo=>īL)
def ou:dQ->dQ->ú
 |w::W,ýW=>ĀX++đ4
 |_,_=>[]
theorem F![75]{f:þ->þ}[201]:∀B:ú,īT=Ĵ2*c
 |[]=>by show üC=0*c;rw[ĜC]
 |u::B=>by show F (f u.1)*(c*u.2)+īT=(F (f u.1)*u.2+Ĵ2)*c;rw[F! B,ŅK,ûc c u.2,ùv]
theorem F?[75]{B:ú}:∀Q:ú,ŀm=ln (λe=>ln (ďf) B) Q
 |[]=>rfl
 |o::Q=>by unfold gg;rw[Ă9,om];show ln F (īL)+ŀm=ln (λg=>F (bN o.1 g)) B*o.2+_;rw[F!,F? Q]
theorem zT{p bk:Int}{H:Ćy}:∀l:ú,Cq p (ln H (øU ĞJ)) (bk*ln H l)
 |[]=>ċn (by show üC=bk*0;rw[þU])
 |u::l=>by have h1:=(Cq.mod (p:=p) (a:=ĔM)).mul (H u.1);refine(h1.add (zT l)).trans ýD;show H u.1*(ĔM)+bk*ln H l=bk*(H u.1*u.2+ln H l);rw[ĀN,<-ùv,ûc bk (H u.1*u.2)]
theorem Ga[204]{G M:Ćy}[201](h:∀e,Cq p (c*G e) (M e)):∀l:ú,Cq p (c*ln G l) (ln M l)
 |[]=>ċn (by show c*0=0;rw[þU])
 |u::l=>by
  have h1:=(h u.1).mul u.2;refine ĒO ýD ((h1.add (Ga h l)).trans ýD)
  .show c*(G u.1*u.2+ln G l)=u.2*(c*G u.1)+c*ln G l;rw[ĀN,<-ùv,ûc u.2]
  .show u.2*M u.1+ln M l=M u.1*u.2+ln M l;rw[ûc]
section
variable[1]
def QA{x:Md}{r:ùB}[9][32](o:ěu)(F':Č3)(X:Ăt)[146][40]:Cq p (x.bk*ln (ďf) r.2) (ĢC):=by
 ext b;let⟨mt,mx,tl⟩:=o;have ef:(r.2.filter λu=>decide (ÿ8 ≠Ďg))=ğo:=by ext ld;ext fR;exact(λh z=>h ŁI,λh z=>h (ik (ĉU u mu) (ĉU x.t mt) hm ø z))
 let⟨H,hH⟩:=NE (ďf:Ćy)
 have h1:ln H r.2=ln H (ğo)+ŅF:=by rw[vC F'.nd,ir F'.nd mt];ext c
 have h2:Cq p (ln H x.tl) (x.bk*ln H (ğo)):=by rw[tl];unfold RG;rw[ef];exact zT _
 have h3:Cq p (x.bk*(ŅF)) ġo:=by
  have q:Cq p (ğH) 1:=by have:=Cq.mod (p:=p) (a:=ğH);rw[X.bk.2.2]at this;exact this.symm
  have:=q.mul ġo;rw[ĐI]at this;refine ĒO ýD this;rw[<-ùv,<-ùv,ûc x.bk ġo]
 have em:ĢC=H øy+ln H x.tl:=by
  unfold mF;rw[hH];have:Ėg=ďf:=funext λg=>by rw[mY]
  rw[this,mY øy e]
 ext a;rw[em,<-hH,h1,ĀN];have:=(h2.symm.add h3)
 refine this.trans ýD;ext c
def QB{q:ŧ}[9][32][146]:∀[95]{rows:dQ},ĭ8->∀(W:dQ)[5],Ř=þ5->(ĚT)->(ďZ)->(∀[194](x:Md)(w:ùB),ğt->ęZ->w.2.Perm (Ļv Ĝl)) ->
  Cq p (ln F (đ4)) (ŅC):=by
 intro mo rows h
 induction h with
 |nil=>
  intro W i hl _ _ _;cases W with
  |nil=>exact ĄX
  |cons w W=>cases hl
 | @cons x r mo rows o _ ih=>
  intro W i hl hr hx hw;cases W with
  |nil=>cases hl
  |cons w W=>
   have ih':=ih W Ē Ąz (λr' m=>hr r' ŕ) (λy m=>hx y ŕ) (λj y z e1 e2=>by
    have:=hw Ķ y z (by rw[Ăz];exact e1) (by rw[Ăz];exact e2);rw[Į2];ext n)
   have pw:=hw 0 x w rfl rfl;show Cq p (ln F (ĀX++đ4)) (Ĭl);rw[om,F?,FR pw];refine Cq.add ?_ ih';exact(zT _).trans (Ga (λe=>QA hm hv o Ĉp (hx x ċ) F e) _)
variable[299]{W:dQ}[95]{R:ú}{q:ŧ}
def QC[9][263](hr:ĚT)[146]:Cq p (ln F (č6)) (ĉI):=by have h1:=G.gi.RC F;have h2:=QB hm G.hv F G.md W 0 G.wl hr G.mf (λj x w e1 e2=>by rw[Ť];exact(G.wq j x w e1 e2).1);rw[om,FR G.rp];refine ĒO ?_ h1.symm;refine((ĄX).add h2).trans ýD;show ĊU+ĐE=0+ĊU+ĐE;ext c
def Mz[263]:Ńz/\∀r∈rest,∀x∈mo,dvd øy r.1=false:=
 ((λt mt=>ĩ5.1,λt mt=>ĩ5.2.2,G.rf),λr mr x mx=>(x? _ 0).mp (G.gi.nR r (ĻV mr)) _ (ĂY mx))
def vE[91][263]{x:Md}{w:ùB}(hx:Ĉ1)(hw:ăH):ņg/\∀o∈w.2,∃u∈q i,o.1=u.1:=by
 let⟨pw,fw⟩:=G.wq i x w hx hw;have mem:∀o∈w.2,∃u∈q i,o=kJ p x.bk u:=λo MC=>by let⟨u,mu,rfl⟩:=Ĕ (pw.mem_iff.mp MC);exact Ł9
 have X:=G.mf x (øC hx);refine((ğN,ğN,fw),ğN)
 .ext fa;exact łg.1
 .ext fa;have nu:=łg.2.2;show 1<=Ĉy/\Ĉy<p;have h1:=ăj (ĢU) į3;have h2:=Ă7 (ĢU) Ęk;refine(?_,h2);by_cases y:Ĉy=0
  .exfalso;have h3:Ĉy*x.t.2 % p=u.2:=by rw[Ĉs (Ĉy),čM _ ĎD,<-Ĉs,ùv,Ĉs,X.bk.2.2,ĐI,čM _ ĎD];exact Ć6 ø nu.2
   rw[y,ĜC,Ĉb]at h3;ext c
  .lia
 .ext fa;exact Ł9
def MD[9](Wt:ĝU)[263][91](hr:ĚT)(oR:ěx){x:Md}{w r:ùB}(hx:Ĉ1)(hw:ăH)(hri:ĜY)(o:ěu):
  ∀h∈ĀX,h.1.length=aj/\∃t∈row,Ň (lZ b t.1) (lZ b h.1)=false:=λh mh=>by
 ext b;let⟨oo,MC,mh⟩:=č2 mh;ext lU;let⟨_,qm⟩:=vE hp G hx hw;let⟨z,mz,ez⟩:=qm oo MC;let⟨_,k1,w1⟩:=G.gi.aq i x hx z mz;have F':=hr r (øC hri);have fu:=ĉU u mu;have oz:=ĭS z mz;have fz:=Wt.fit z.1 oz.1 oz.2.1;have ku:=o.2.1 u mu;have wu:=F'.wle v G.hv x.t o.1 u mu ku;have le:(ěA).length=aj:=by rw[gM,fz.1,fu.1,ĀS]
 have fe:jz aj (ěA):=Wt.fit _ le (by rw[Wt.add _ _ fz.1 fu.1];ext c);have ke:=t5 (b:=b) fz fu fe (v:=v+1) įV;ext a;rw[ez];refine(le,?_);ext b;have:∃t∈row,ĽQ<=ùN:=by
  apply įm;intro hn;have:=t7 (λt mt=>by
   rcases øI ĕk (ĽQ)with y|y
   .exact y
   .exact absurd (t,mt,y) hn)
  ext c
 let⟨t,mt,lt⟩:=this;ext a;refine(t,mt,?_);rw[<-vB (v:=v+1) (oR t mt) fe hm įV,ùo]
open e
def MF[366]{t b:Tm}[188](hl:úp=ğh)(l8:úp<=1000)(hb:ÿm<b.2/\b.2<ŋ)(hF:Ġ_)(oQ:üf<1000000):
  ∃(s':ai)(z5:ć),prI [qL a, qL r, qL F, þN, ĝ1, y5] s=.nx [qL a, qL r, qL F, þN, ĝ1, z5] s'/\s'[F]?=some (.lst ((ts++[prT b t]).map tM))/\Ęg:=by
 have F1:=dM hF [ą ĝt];have c:=FO (s:=s) hl úp 0 none [] ø (by rw[ĽG]);rw[Įj,<-cR]at c;have ln:c7 [ďO] s=.ok (.int (úp:Int)) s:=ĺq
 have lr:(dh 0 úp).length<=1000000:=Čr
 have ml:=mul_r (i:=t.2) (st:=s++[ą ĝt]) hb.1 hb.2;exact(_,_,ùO,by rw[Ŋ];exact iZ F1,by rw[Ŕ,Ď];ext c,λn c h e=>aV (dM e _) ğO)
theorem B0[366]{t:Tm}[6](rF:r≠F)(l8:úp<=1000):∀(B:ú)(s:ai)[145](y4 y5:ć),s[r]?=ũ->Ġ_->(∀u∈B,úp=u.1.length/\ÿm<u.2/\u.2<ŋ)->üf+Ċg<=1000000 ->
  ∃(s':ai)(z4 z5:ć),forL (λay=>ar ay r=đ) ý0 prI Łn Ĭc s=.nx Ĭd s'/\s'[F]?=some (.lst ((ıZ).map tM))/\Ęg
 |[],s,ts,y4,y5,hr,hF,_,_=>(s,y4,y5,c! (a! hr),by rw[Ĺ,ń];exact hF,ł,Ń9)
 |u::B,s,ts,y4,y5,hr,hF,h,hc=>by rw[ă]at hc;let⟨h1,h2⟩:=h u ċ;let⟨s1,z5,e1,F1,l1,k1⟩:=MF h1 l8 h2 hF ø;let⟨s2,w4,w5,e2,F2,l2,k2⟩:=B0 rF l8 B s1 (ts++[prT u t]) Ě7 z5 Ĺz F1 (ľx) (by ext ak;show üf+1+Ċg<=1000000;ext c);exact(s2,w4,w5,dD (a! hr) e1 rfl e2,by rw[Į]at F2;exact F2,ø,λn c q e=>k2 n c q (k1 n c q e))
theorem B3[366][6]{B:ú}{aj:Nat}(aF:a≠F)(rF:r≠F)[354][415]:∀(ones:ú)(s:ai)[145](y3 y4 y5:ć),ā8=ũ->ĭM->Ġ_->(ļG)->üf+100*ņr<=1000000 ->
  ∃(s':ai)(z3 z4 z5:ć),forL (λay=>ar ay a=đ) ød prO Ļt [qL a, qL r, qL F, y3, y4, y5] s=.nx [qL a, qL r, qL F, z3, z4, z5] s'/\s'[F]?=some (.lst ((ts++gg ones B).map tM))/\Ęg
 |[],s,ts,y3,y4,y5,ha,hr,hF,_,_=>(s,y3,y4,y5,c! ġt,by show s[F]?=some (.lst ((ts++[]).map tM));ext ad;exact hF,ł,Ń9)
 |t::ones,s,ts,y3,y4,y5,ha,hr,hF,hl,hn=>by
  ext b;rw[ă]at hn;have lt:=hl t ċ;let⟨s1,z4,z5,e1,F1,l1,k1⟩:=B0 (t:=t) rF ø B s ts y4 y5 hr hF (λu m=>(by rw[lt,(hB u m).1],(hB u m).2)) ø;have b1:prO Ĭc s=.nx Ĭd s1:=ùO
  let⟨s2,w3,w4,w5,e2,F2,l2,k2⟩:=B3 aF rF hm hB lB ones s1 (ıZ) (þN) z4 z5 (k1 _ _ aF ha) Ĺz F1 (λu m=>hl u ŕ) (by rw[Ď,č];ext c);rw[Į]at F2;ext a;exact(s2,w3,w4,w5,dD ġt b1 rfl e2,F2,ø,λn c h e=>k2 n c h (k1 n c h e))
def B4{a r:Nat}{B ones:ú}[354](ha:ā8=some (.lst Ļt))(hr:ĭM)[415](hl:ļG)(hn:ņr<=10000):
  ∃s',ąS [.loc a,.loc r] s=.ok āS s'/\s'[ē]?=some (.lst ((gg ones B).map tM))/\Ĵ:=by
 ext b;ext nh
 ext bN
 ext a;ext W
 ext b;have la:=bu ha;have lr:=bu hr;let⟨s2,z3,z4,z5,e2,F2,l2,k2⟩:=B3 (F:=F) ø ø hm hB lB ones s1 [] none none none (x1.2 _ _ ha) (x1.2 _ _ hr) (by rw[b_,hF];ext B) hl čV;ext a;rw[<-hF];refine(s2,?_,F2,(by ext bA;ext c,λn c e=>k2 n c ĕi (x1.2 n c e)));subst b_ hF;unfold ąS
 ac_rfl
def MG[1][139][8](hl:ùT)[365]:Rx (rkT b e) (rkT b f) st=.ok (.bl (Ň (lZ b f) (lZ b e))) st:=by unfold rkT;rw[fV,fV];exact aaq (e:=iE e) (by unfold iE;rw[č,č,hl]) (λz=>ne ġI)
abbrev hiB:MB:=ĥl
def vF[1]{x y z:þ}(h1:Ň (lZ b x) (lZ b y)=false)(h2:Ň (lZ b y) (lZ b z)=false):Ĳ6=false:=by
 cases h:Ĳ6 with
 |false=>rfl
 |true=>
  by_cases e:lZ b y=lZ b z
  .rw[e,h]at h1;ext aL
  .have:=ċE e h2;have:=_F.lg h this;rw[h1]at this;ext bx
theorem zU{s:ai}{q aj:Nat}[6]{d:Bool}[12](hq:ar s q=đ):∀[147](b0:Tm)[41],b0.1.length=aj->(Đp) ->
  ∃(t:Tm)(y':ć),forL (λay=>ar ay q=đ) ød hiB Ġe [qS Ċs, qL q, some (tM b0), y] s=.nx [qS Ċs, qL q, þN, y'] s/\(t=b0\/t∈l)/\Ň Ď1 Ŀf=false/\ĵn
 |[],b0,y,_,_=>(b0,y,c! hq,üw,_F.d6 _,đn)
 |u::l,b0,y,hb,h=>by
  have hu:=ģS;have ne:u.1≠[]:=λz=>by rw[z,ĳ]at hu;ext c
  have r1:=įJ;have r2:=tZ (s:=s) (d:=d) (e:=b0.1);have g:=MG (st:=s) (b:=d) (hu.trans hb.symm) ne;cases z:Ň Ŀf ćX with
  |true=>
   let⟨w,y',e,m,l1,l2⟩:=zU m1 hq l u Ě7 hu ĚQ;refine(w,y',ļe,?_,vF l1 (ċF z),đp)
   .ext fV
    .exact .inr ċ
    .exact .inr ŕ
   .ext fm
    .exact l1
    .exact l2 x mx
  |false=>
   let⟨w,y',e,m,l1,l2⟩:=zU m1 hq l b0 Ě7 hb ĚQ;refine(w,y',ļe,?_,l1,đp)
   .ext fV
    .exact üw
    .exact .inr ŕ
   .ext fm
    .exact vF l1 z
    .exact l2 x mx
def t![150][12][218](ne:l≠[])(h:Đp):∃t∈l,Ăf [ùY,üB] s=.ok ģf s/\ĵn:=by
 cases l with
 |nil=>ext dp
 |cons b0 l=>
  let⟨t,y,e,m,l1,l2⟩:=zU m1 (a! hq) (b0::l) b0 none (h b0 ċ) h;exact(t,by ext fV;ext bF;exact m,by unfold Ăf;ac_rfl,l2)
def MJ{r:Nat}{l k:ú}[12][218](hr:s[r]?=some (.lst (þd tM)))(nl:l≠[])(nk:k≠[])(h1:Đp)(h2:∀t∈k,úc)(h:∀t∈l,∃u∈k,ĸX):_E.d8 [ùY,üB,.loc r] s=û_:=by
 let⟨t,mt,e1,_⟩:=t! m1 hq nl h1;let⟨u,mu,e2,l2⟩:=t! m1 hr nk h2;let⟨w,mw,lw⟩:=h t mt;have lt:ĸX:=vF (l2 w mw) lw;have r1:=tZ (s:=s) (d:=d) (e:=t.1);have r2:=įJ;have g:=MG (st:=s) (b:=d) ((h1 t mt).trans (h2 u mu).symm) (λz=>by have:=h1 t mt;ext gm;ext c);rw[lt]at g;unfold _E.d8
 ac_rfl
open _L (gE iN)
theorem qH(B:ú):∀Q:ú,(gg Q B).length=Q.length*Ċg
 |[]=>by rw[ĳ,Nat.zero_mul];rfl
 |o::Q=>by have:=qH B Q;unfold gg at this⊢;rw[Ă9,Ď,č,this,ă,ŅM];ext c
def MK{P:ú}[91][492]:∃row:ú,Ħr:=by
 ext b;let⟨D,hD⟩:=NE (Đ9)
 ext oz;have mD:∀x∈D,∃w∈P,x.1=iE w.1/\1<=x.2/\x.2<p:=λx mx=>by
  rw[hD]at mx;let⟨y,my,e1,e4⟩:=LY mx;let⟨z,mz,e5⟩:=Ĕ (ga.2.2 y my);let⟨w,mw,rfl⟩:=Ĕ mz;refine(w,mw,by rw[e1,<-e5];rfl,?_);have nz:x.2≠0:=by unfold jM at mx;exact bne_iff_ne.mp (ûW mx).2
  unfold gy at e4;rw[Ŗ]at e4;have:=gL (m:=p) ø y.2;ext c
 let⟨row,aaS⟩:=NE (D.map λx=>%[ęT|x.2]:ú)
 ext hi
 have er:Ċ3=D:=by rw[aaS,ğ];refine(ùP đp).trans (ĐK D);let⟨w,_,e1,_⟩:=mD x mx;show%[iE (ęT)|x.2]=x;rw[e1,back,<-e1]
 have mr:∀u∈row,∃w∈P,u.1=w.1/\ĿO:=λu mu=>by rw[aaS]at mu;let⟨x,mx,rfl⟩:=Ĕ mu;let⟨w,mw,e1,e4⟩:=mD x mx;exact(w,mw,by show ęT=w.1;rw[e1,back],e4)
 ext a;refine(row,by rw[er,hD],(üa,üa,?_),üa,?_)
 .ext b;ext lr;ext a;rw[e1];exact h w mw
 .ext b;let⟨w,mw,e1,e4⟩:=mr u mu;ext a;exact e4
 .have:=vi p ga.1;rw[<-hD,<-er,ğ]at this;ext n
 .ext b;ext lr;ext a;exact(w,mw,e1)
 .have l1:=LZ p (ČI);rw[<-hD]at l1;have l4:=ga.2.1;rw[č]at l4;rw[aaS,č];ext c
def ML[76][114]{r:Int}{k:Vb}{x3:ć}(h:đ_)(hq:ĩZ)(hl:đ0<1000000)(hk:ĉ8)(hr:¬ r=0):
  ac' ĩD s=.nx ĩD (ź q (.lst ((Fn r A ĞK).map tV))):=by
 have dg:=Qd h hk;have md:cw (ĞZ) (.int r) s=.ok (Ğ0) s:=by rw[fP hr];unfold gy;rw[if_neg hr]
 have ne:gC (Ğ0) ùg s=.ok (.bl (ē8)) s:=rfl;have ln:=Fo r A ks;rw[LV];cases c:ē8 with
 |true=>
  rw[c]at ne;rw[Ī,Ŋ];exact(show _=þc _ (ź q (.lst (ľJ++[.tup [jv k,Ğ0]]))) by ac_rfl)
 |false=>
  rw[Ŗ,ń,zH hq]
  ac_rfl
theorem Gb{d q L:Nat}[114]{r:Int}[6]{x1 x3:ć}(hr:¬ r=0)(dq:d≠q)(Lq:L≠q):∀(rest ks:øs)(s:ai)[41],(∀k∈rest,ĉ8)->đ_->ĩZ->ą5=ũ->đ0+ĝZ<=1000000 ->
  ∃(s':ai)(y':ć),forL (λay=>ar ay L=đ) ýU ac' (ĢK jv) [qI r, x1, qL d, x3, qL q, y] s=.nx [qI r, x1, qL d, x3, qL q, y'] s'/\s'[q]?=some (.lst ((Fn r A (ks++rest)).map tV))/\û0/\∀n c,n≠q->ÿ9
 |[],ks,s,y,_,_,hq,hL,_=>(s,y,c! ġs,by ext ad;exact hq,ł,Ĝ6)
 |k::rest,ks,s,y,hk,hd,hq,hL,hl=>by rw[ă]at hl;have st:=ML (x1:=x1) (x3:=x3) hd hq ø (hk k ċ) hr;let⟨s',y',e,h1,l1,h2⟩:=Gb hr dq Lq rest ĞK _ (some ąd) (λx m=>hk x ŕ) (aV hd (øv dq)) (iZ hq) (aV hL (øv Lq)) (ĲQ);rw[Į]at h1;rw[Ŕ]at l1;exact(s',y',dD ġs st rfl e,h1,l1,λn c ne e=>h2 n c ne (aV e Ēp))
def pQ{a:Nat}{P:ú}[91][12][492][494](ha:ā8=some (.lst (ċq tM))):
  ∃(row:ú)(u:Nat)(s':ai),ÿ1 [øx,.loc a] s=Ď3/\ĔH=þg/\Ĵ/\ē<=u/\Ħr:=by
 ext b;let⟨row,er,S,m,l⟩:=MK hp h;let⟨A,hA⟩:=NE (ČI)
 ext oz;rw[tMs]at ha;let⟨y3,e1⟩:=LW (x0:=đc) ġt (č5);rw[<-hA]at ga e1 er;rw[č]at ga;let⟨sA,hsA⟩:=NE (s++[aH.dT ĈO])
 ext a;have xA:Xt s sA:=by rw[hsA];ext O
 have lA:sA.length=Ăe:=by rw[hsA,Ď];rfl
 have ld:H? [ăq] (sA++üS)=.ok (.loc ĶH) (ĕ8):=by unfold H?;ext d;rw[dM (show sA[ē]?=_ by rw[hsA];ext B)];ext d;rw[ada]
 have so:=Fh (p:=false) (n:=ĶH) (m:=aj) (st:=ĕ8) (ks:=ü6) (br _ _) ga.1 (λk hk=>by
  let⟨t,ht,rfl⟩:=Ĕ hk;let⟨q,hq,e⟩:=Ĕ (ga.2.2 t ht);let⟨u,mu,rfl⟩:=Ĕ hq;rw[<-e];show(ĊQ).length=aj;unfold iE;ext w;exact h u mu) (by rw[ņ];exact m1)
 rw[show ćW Ło=ćW jv from ùP λk _=>rfl]at so;let⟨sC,hsC⟩:=NE (ĕ8)
 have lC:sC.length=ē+3:=by rw[hsC,Ď,Ď,lA];rfl
 rw[<-hsC]at so ld;let⟨s',y',e2,h1,l1,k1⟩:=Gb (d:=s.length) (q:=sA.length) (L:=sC.length) (A:=A) (r:=p) (us:=ćW jv) (x1:=ĢP) ø ø ø (Ē_) [] (sC++[.lst (ćW jv)]) none (λk mk=>ęg mk) (by subst hsA hsC;ac_rfl) (by rw[hsC];exact dM (dM (dF sA (Ėa)) _) _) ĕc (by rw[ĳ,Ķy,č];ext c);rw[Ž,lX,er]at h1;refine(row,sA.length,s',?_,by rw[tMs];ext an,(?_,λn c e=>k1 n c ĕi ?_),ø,by rw[<-hA];exact er,S,m,l)
 .subst hsC hsA;unfold ÿ1
  ac_rfl
 .rw[Ď]at l1;ext c
 .subst hsC;ac_rfl
structure TgS(S R:Nat)[283](s:ai):Prop where
 sh:đ9
 wa:ńc
 Iy:đ8
 ro:ďh
def TgS.to[62]{W:dQ}(h:ćI)[97]:TgS S R rows W s':=(x.2 _ _ h.sh,λy m=>x.2 _ _ (h.wa y m),x.2 _ _ h.Iy,λr m=>x.2 _ _ (h.ro r m))
section
variable[299]{W:dQ}
structure TgF[34][46][283]:Prop where
 rl:∀r∈rows,đa<=8/\∀u∈r.2,Ă0/\ĿO
 wl:∀w∈W,w.2.length<=10000/\∀t∈w.2,úc
 ln:Ř=Ŭ
 l4:ĔT
def Ge(F:ăk)[9][57](μ:ćI)[498]:
  ∃s',ąS [.loc w.1,.loc r.1] s=.ok āS s'/\s'[ē]?=some (.lst ((ĀX).map tM))/\Ĵ:=by
 ext kN;exact B4 ø (μ.wa w mw) (μ.ro r mr) (λu mu=>(ĩl.1,ĵU,ĵU)) (by have:=ľS.1;ext c) ľT.2 ľT.1
def Gf(F:ăk)[498]:Ĳu:=by rw[qH];exact ěl (F.wl w (øC hw)).1 (F.rl r (øC hr)).1
theorem Gg(F:ăk)[9][57]{x3:ć}:∀[165](A:Nat)(acc:ú)[41],ćI->j+m=Ŭ->ğb+80000*m<=1000000->s[A]?=some (.lst (ğc)) ->
  ∃(A':Nat)(s':ai)(y':ć),forL øf ýU toB ûN [qI p, qL S, qL R, x3, qL A, y] s=.nx [qI p, qL S, qL R, x3, qL A', y'] s'/\s'[A']?=some (.lst ((ĖI).map tM))/\Ĵ/\(ĖI).length<=1000000
 |0,j,s,A,acc,y,_,h,hc,hA=>(A,s,y,þ9,by rw[ĸ4];cases Ģc<;>(show s[A]?=some (.lst ((acc++[]).map tM));ext ad;exact hA),úP,by rw[ĸ4];cases Ģc<;>(show(acc++[]).length<=1000000;ext ad;ext c))
 |m+1,j,s,A,acc,y,μ,h,hc,hA=>by
  have ljr:j<Ŭ:=ø
  have ljw:j<Ř:=by rw[F.ln];exact ljr
  ext b;have hw:W[j]?=some W[j]:=ħ ljw;have hr:rows[j]?=some rows[j]:=ħ ljr;let⟨s1,e1,P1,x1⟩:=Ge F hm p2 μ hw hr;have pl:=Gf F hw hr;have A1:=x1.2 _ _ hA;have x2:=úB (üK [ą (ğc++(ĪS).map tM)]);let⟨A',s3,y',e3,h3,x3',l3⟩:=Gg F hm p2 (x3:=x3) m Ķ _ úw ŁD ûJ (μ.to x2) ø (Ďw) (by rw[dF,Ŋ]);have et:ĖI=ŁD++ou (W.drop Ķ) (rows.drop Ķ):=by rw[ü4 ljw,ü4 ljr,Į];rfl
  ext a;rw[et];have i1:ēp[j]?=some (.loc W[j].1):=Įa
  have i2:úk[j]?=some (.loc rows[j].1):=ĸs
  have z1:=μ.sh;have z2:=μ.Iy;exact(A',s3,y',dD trivial ŀ rfl e3,h3,üp x3',l3)
theorem Gh{F:ăk}:∀{W' bO:dQ},Ĵy->ıB->∀t∈ĢG,úc
 |[],_,_,_,t,m=>ùt
 |_::_,[],_,_,t,m=>ùt
 |w::W',r::bO,hw,hr,t,m=>by
  ext aP
  .let⟨o,mo,m⟩:=č2 m;ext mo;rw[gM,ı_.2 o mo,(ļN.2 u mu).1,ĀS]
  .exact Gh (F:=F) ĳz ĳy t m
def Iz(F:ăk)[91][57][12][9](SR:û6)(hrl:∀t∈rest,úc)(lr:ĝZ<=10000)(aeP:īz)(μ:ćI)(hT':Ġ'):
  ∃(u:Nat)(s':ai),_E.jL [øx,ý5,þQ,ąi] s=Ď3/\ĔH=þg/\Ĵ:=by
 ext b;let⟨s1,b_⟩:=NE (s++[ą Ĕ1])
 ext a;ext W
 ext b;have l4:=F.l4;let⟨A,s2,y,e2,h2,x2,l2⟩:=Gg F hm p2 (S:=S) (R:=R) (x3:=some (ąi)) Ŭ 0 s1 ē rest none (Ģ') ø ø ČL;rw[ĀC,ĀC]at h2 l2;have ll:∀t∈č6,úc:=λt mt=>by
  ext mu
  .exact hrl t mt
  .exact Gh (F:=F) ĐV ĐV t mt
 ext a;by_cases z:(č6).length<1000000
 .ext b;let⟨aaT,u,s3,e3,u3,x3,_,et,_,_,_⟩:=pQ (p:=p) hp m1 ll z h2;have tb:=My ø SR aeP;rw[tb]at et;have er:ĔU=aaT.map tM:=by rw[tMs,tMs,et]
  rw[<-er]at u3;ext a;refine(u,s3,?_,u3,úB (üp x3));have ln:c7 ċy s1=.ok Ķt s1:=by rw[je (a! (x1.2 _ _ μ.Iy)),č]
  rw[<-cR]at e2;ext aN;unfold _E.jL
  ac_rfl
 .exfalso;have tl:∀(W' bO:dQ),Ĵy->ıB->(ĢG).length<=80000*ĉg:=by
   intro W'
   induction W' with
   |nil=>intro bO _ _;ext as
   |cons w W' ih=>
    intro bO hw hr;cases bO with
    |nil=>ext as
    |cons r bO=>
     have:=ih bO ĳz ĳy;have pl:Ĳu:=by rw[qH];exact ěl ı_.1 ļN.1
     show(ĀX++ĢG).length<=80000*(ĉg+1);ext ak;ext c
  have:=tl W rows ĐV ĐV;rw[Ď]at z;ext c
open e
def r![49][390](hl:Ĉ2<=100)(Rw:ĔT)[12][9]:
  ∃(S T:Nat)(s':ai)(W:dQ)(rest:ú)(mo:ým)(Rl:ú)(q:ŧ)(v:Nat),ûI čF s=Ĝv/\ħI:=by
 ext b;ext dk;let⟨g0,c0⟩:=iX hp s;let⟨s0,hs0⟩:=NE (s++g0)
 ext a;have x0:Xt s s0:=by rw[hs0];ext O
 ext b;have hr0:∀r∈rows,s0[r.1]?=Ća/\Ěa:=λr mr=>(x0.2 _ _ ûq.1,ûq.2)
 let⟨S,T,s',W,rest,mo,Rl,q,v,cU,e,em,G⟩:=BY hp hW ĻD hr0 (x0.2 _ _ hq) oR hl Rw m1 hm;have G':∃(rest:ú)(Rl:ú)(q:ŧ),ħI:=by
  rcases em with e1|⟨e1,e2⟩
  .rw[e1]at G;exact(rest,Rl,q,ľf,G.told,G.F5,G.rp,G.rf,G.gi,G.hv,G.md,G.mf,G.wl,G.wq,Ĭh,Ĭi,G.wd,G.wt_,G.st_)
  .have em:mo=[]:=by have:=G.md;ext gH;ext bx;rfl
   have eR:Rl=[]:=by
    cases h:Rl with
    |nil=>rfl
    |cons t l=>
     exfalso;have l1:=G.gi.RC λg=>if g=t.1 then 1 else 0
     have mt:t∈Rl:=by rw[h];ext bF
     rw[zQ G.gi.oR.nd,ir G.gi.oR.nd mt,e1,em]at l1;have l2:=l1.eq;have l3:üC % p=(0+t.2+0) % p:=l2;have n:=(G.gi.oR.ok t mt).2.2;rw[Ĉb,show üC+t.2+0=t.2 by ext c,Ć6 ø n.2]at l3;ext c
   have er:rest=[]:=by have:=G.rp;rw[eR]at this;exact this.eq_nil
   have eW:W=[]:=by have:=G.wl;rw[em]at this;exact List.length_eq_zero_iff.mp this
   refine([],[],Ą5,ľf,G.told,by rw[<-er];exact G.F5,.nil,þl,?_,G.hv,G.md,(λx mx=>by rw[em]at mx;cases mx),G.wl,(λi x w hx=>by rw[em]at hx;cases hx),Ĭh,Ĭi,G.wd,G.wt_,G.st_);rw[e1,em];exact GI.start (þl,λt m=>ùt) λt m=>ùt
 let⟨rest,Rl,q,G'⟩:=G';ext a;refine(S,T,s',W,rest,mo,Rl,q,v,?_,G');have c1:=lY d s0;have c2:=Mw (a! ĻD) λr mr=>(ŁN.1,ŁN.2.ne)
 subst hs0;unfold ûI
 ac_rfl
def pR[7][147]:dW (n+3) Ġe=true:=qu λu hu=>by let⟨t,_,rfl⟩:=Ĕ hu;show(dW ÿY ğ7&&(true&&true))=true;rw[fV,Bh];rfl
def pS{a b:Nat}[150](ha:ā8=ĕM)(hb:s[b]?=ĕM):Ķe:=by ext kl;exact iy s 14 _ (pR 11 l)
def D?[258][1][465]:gC x y s=.ok ĝa s:=by unfold gC;rw[h]
def aaU[258][1][465]:jc x y s=.ok ùJ s:=by unfold jc;rw[h]
def yg{F:Ĝ5}{l:ř}{k:ģD}(h:Paired F l k):∀[64]{b:β},k[i]?=ġ->∃a,l[i]?=Ō/\F a b:=by
 induction h with
 |nil=>intro i b e;ext g
 |cons h _ ih=>
  intro i b e;cases i with
  |zero=>ext g;exact ĞC
  |succ i=>rw[Ăz]at e⊢;exact ih e
def B5[1][11][95](h:Paired ła mo rows):∀{bO:dQ},ē5=bO.map ŗ->Paired ła mo bO:=by
 induction h with
 |nil=>intro bO e;cases bO with
  |nil=>ext am
  |cons r l=>ext g
 | @cons x r mo rows h _ ih=>
  intro bO e;cases bO with
  |nil=>ext g
  |cons r' l=>
   have e1:r.2=r'.2:=(þE e).1;refine Ċ ?_ (ih (þE e).2);unfold wG at h⊢;rw[<-e1];ext j
abbrev goC:MT:=īu
theorem Gi{s:ai}{T:Nat}[6][13]{aj:Nat}(hT:ar s T=đ)(he:āK)[354]:∀[374][54],(∀t∈rest,úc/\dvd e t.1=false) ->
  aY (ĸ6) ĩ goC aM Ĕ1 [x,Ĉ4] s []=.ok [] s
 |[],x,_=>by show aY _ _ _ _ [] _ s []=_;rw[iA (g:=ĸ6) hT]
 |t::rest,x,h=>by
  let⟨h1,h2⟩:=h t ċ;have c:goC [þN,Ĉ4] s=.ok false s:=by refine jy ?_;rw[c_ (Qe (v:=Āq) rfl rfl),BI ø ø,h2]
  rw[Ą,D3 hT ĔY c];exact Gi hT he hm rest _ ďz
abbrev goB:MB:=(ĤA)
section
variable[129]{Rl:ú}{W:dQ}[95]{qf:ŧ}{sA sB:ai}[299]
structure Gd[34][179][46](row rest:ú)[283]:Prop where
 sr:û6
 ss:Ńz
 lr:ĝZ<=10000
 F:ăk
 sw:∀w∈W,ņg
 RC:īz
 ne:∀r∈rows,Ğv
 dv:∀r∈rows,∀x∈r.2,(∀u∈r.2,Ň (lZ d x.1) ćX=false)->∀t∈rest,dvd x.1 t.1=false
 hi:∀[5](w r:ùB),ăH->ĜY->∀h∈ĀX,∃t∈row,Ň Ď1 ŁT=false
def wH.gd(G:wH aj wt Wm p d row rows sA sB S T W rest mo Rl qf v)[91][12][9](Wt:ĝU)(hr:∀r∈rows,Ěa/\đa<=8)(hl:ĔT)(SR:û6)(oR:ěx):ĆI:=by
 let⟨r1,r2⟩:=Mz G;have lmo:þ5=Ŭ:=by
  have:∀{l:ým}{k:dQ},Paired (wG d ÿ p) l k->Ÿ=ÿt:=λh=>by
   induction h with
   |nil=>rfl
   |cons _ _ ih=>rw[ă,ă,ih]
  exact this G.md
 have wi:∀w∈W,∃(i:Nat)(x:Md),Ĉ1/\ăH:=λw mw=>by let⟨i,li,e⟩:=č1 mw;have:=G.wl;exact(i,mo[i]'(),Ą4,by rw[ĔS,e])
 refine(SR,r1,?_,(λr mr=>(ûq.2,λu mu=>((ûq.1.fit u mu).1,ûq.1.num u mu)),đo,by rw[G.wl,lmo],hl),đo,QC hm G ŀ0,λr mr=>ûq.1.ne,λr mr x mx hx t mt=>?_,λi w r ew er h mh=>?_)
 .rw[G.rp.length_eq];exact G.gi.oR.len Wt
 .ext b;ext ln;ext a;refine(?_,ķV.1.len);rw[(G.wq i x w e1 e2).1.length_eq,č];exact(G.gi.oq i).len Wt
 .ext b;ext ln;ext a;exact ķV.1
 .ext b;let⟨i,li,e⟩:=č1 mr;let⟨y,ey,o⟩:=yg G.md (show ĜY by rw[ĔS,e]);have F':=ûq.1;have k1:=o.2.1 x mx;have k2:=hx y.t o.1;have hv:=G.hv;rw[<-vB (v:=v+1) łi ĻH hm ø,decide_eq_false_iff_not]at k2;have e2:=ik (b:=d) (v:=v+1) łi ĻH hm ø ø;ext a;rw[e2];exact r2 t mt y (øC ey)
 .ext b;let⟨y,ey,o⟩:=yg G.md er;ext a;exact(MD hm Wt G hp (ŀ0) oR ey ew er o h mh).2
structure GdS(S T q R:Nat)(row rest:ú)[283](s:ai):Prop where
 z:ćI
 t_:Ġ'
 q_:ā9=þg
def GdS.to(h:Ćs)[97]:GdS S T q R row rest rows W s':=(h.z.to x,x.2 _ _ h.t_,x.2 _ _ h.q_)
def QD(G:ĆI)[91][57][12][9](μ:Ćs)(hj:j<Ŭ):
  ∃(z5 z6:ć)(s':ai),goB [ż, qL q, qL R, đb, ĊW, y5, y6] s=.nx [ż, qL q, qL R, đb, ĊW, z5, z6] s'/\Ĵ:=by
 ext b;obtain⟨w,hw⟩:∃w,ęZ:=(_,ħ (by rw[G.F.ln];exact hj))
 obtain⟨r,hr⟩:∃r,Ĳ2:=ŁB
 ext kN;let⟨x,mx,e1,x1⟩:=t! (d:=d) (s:=s) m1 (μ.z.ro r mr) (G.ne r mr) λu mu=>Ľk;have gc:=Gi (s:=s) (a! μ.t_) (ĬQ x mx).1 ø rest none λt mt=>(G.ss.len t mt,G.dv r mr x mx x1 t mt)
 have Z2:=μ.to (s':=s++üS++üS) ŀ;let⟨s3,e3,P3,x3⟩:=Ge G.F hm p2 Z2.z hw hr;have pl:=Gf G.F hw hr;let⟨hh,u,s4,e4,u4,x4,_,_,S4,m4,_⟩:=pQ (p:=p) hp m1 (λh mh=>by
  let⟨o,MC,mh⟩:=č2 mh;ext lU;show(bN o.1 u.1).length=aj;rw[gM,(G.sw w mw).len o MC,Ľk,ĀS]) ø P3
 ext a;have iR:úk[j]?=Ėh:=ĸs
 have iS:ēp[j]?=some (.loc w.1):=Įa
 have lr:=G.lr;have hl:=λh mh=>let⟨y,my,ey⟩:=m4 h mh;let⟨t1,mt1,lt1⟩:=G.hi j w r hw hr y my;((t1,mt1,ey▸lt1):∃u∈row,Ň ćX ŁT=false)
 have⟨z1,z2,z3,z4⟩:=μ.z;have z5:=μ.t_;have z6:=μ.q_;cases hh with
 |nil=>ac_rfl
 |cons h0 hh=>
  cases row with
  |nil=>let⟨_,m,_⟩:=hl h0 (.head _);cases m
  |cons a l=>
   have ab:=MJ (s:=s4++üS++üS) m1 ŀ ŀ ėL ėL S4.len G.sr.len hl
   ac_rfl
theorem Gj(G:ĆI)[91][57][12][9]:∀[165](y4 y5 y6:ć),Ćs->j+m=Ŭ ->
  ∃(z4 z5 z6:ć)(s':ai),forL øf ý0 goB ûN [ż, qL q, qL R, đb, y4, y5, y6] s=.nx [ż, qL q, qL R, đb, z4, z5, z6] s'/\Ĵ
 |0,j,s,y4,y5,y6,_,h=>(y4,y5,y6,s,þ9,úP)
 |m+1,j,s,y4,y5,y6,μ,h=>by let⟨z5,z6,s1,e1,x1⟩:=QD G hp p2 m1 hm μ (j:=j) ø;let⟨a4,a5,a6,s2,e2,x2⟩:=Gj G hp p2 m1 hm m Ķ s1 ûJ z5 z6 (Ģ') ø;exact(a4,a5,a6,s2,čS,úS)
def Gk(G:ĆI)[91][57][12][9](μ:Ćs):
  ∃s',_E.fE [þA,üB,þQ,ĕF] s=ĐZ/\Ĵ:=by
 have iss:=Mj (s:=s) (p:=p) m1 μ.t_ G.ss (by have:=G.lr;ext c);have are:=BN (s:=s) (p:=p) (n:=rows.length) m1 μ.z.sh (λx mx=>(μ.z.wa x mx,G.sw x mx,by have:=(G.F.wl x mx).1;ext c)) G.F.ln;ext b;let⟨u,s1,e1,u1,x1⟩:=Iz G.F hp p2 m1 hm G.sr G.ss.len G.lr G.RC μ.z μ.t_;have Z1:=Ģ';let⟨z4,z5,z6,s2,e2,x2⟩:=Gj (top:=top) (t:=t) (c:=c) G hp p2 m1 hm Ŭ 0 s1 none none none Z1 ø;rw[<-cR]at e2;have⟨z1,_,z3,_⟩:=μ.z;have z7:=Z1.z.Iy;have l2:=G.F.l4;have l3:∀{s:ai},đ8->c7 ċy s=.ok Ķt s:=λ{s}h=>by rw[je (a! h),č]
 have l5:=l3 z3;have l6:=l3 z7;have n1:=D? (pS u1 Z1.q_);ext a;exact(s2,by unfold _E.fE;ac_rfl,úS)
open e
def Gm(s:ai)(cs:þ)(c:ýA)[22]:Prop:=(∀(i n:Nat),cs[i]?=āf->ùF=some (.lst (c (k+i))))
def Gm.tl[202](h:Gm s (n::cs) c k):Gm s cs c øe:=λi m e=>by have:=h Ē m ıu;rw[ės];ext n
def Gm.to[202](h:ĝH)[97]:Gm s' cs c k:=λi n e=>x.2 _ _ (h i n e)
theorem RI{s:ai}[202][7](hc:∀i,dW n (c i)=true):∀(cs ds:þ)[22],üs=ú_->ĝH->Gm s ds c k->ĵB=Ğ
 |[],[],_,_,_,_=>rfl
 |a::cs,b::ds,k,hl,h1,h2=>by
  show(match ķc,ĵB with|Ō,ġ=>ĈJ|_,_=>none)=_;rw[RI n hc cs ds øe Ąz h1.tl h2.tl];have e:ķc=Ğ:=by ext bH;simp only[vw,a! (h1 0 a rfl),a! (h2 0 b rfl)];exact iy s n _ (hc _)
  rw[e];rfl
theorem Gn{R:Nat}[6][202]:∀(cs:þ)[22](s:ai)(ys:ý)[54],Ā4->ĝH ->
  ∃(ds:þ)(s':ai),aY þs ĩ aU ć6 ćm [x] s ys=.ok (ys++ds.map ž) s'/\ú_=üs/\Ĵ/\Gm s' ds c k/\(∀d∈ds,ē<=d/\d<Ċf)/\ĲZ
 |[],k,s,ys,x,hR,_=>([],s,by show Ę6=_;rw[iA hR,Ĺ,ń],rfl,úP,(λi n e=>üh),(λd m=>ùt),.nil)
 |a::cs,k,s,ys,x,hR,h=>by
  let⟨s1,b_⟩:=NE (s++[ą (c k)])
  ext W
  ext cE
  ext b;let⟨ds,s2,e2,l2,x2,a2,b2,p2⟩:=Gn cs øe s1 (ys++[ăq]) (ĢP) ĉt (h.tl.to x1);ext a;refine(ē::ds,s2,?_,by rw[ă,ă,l2],úS,ĝ_,λd m=>?_,ė_ (λd m=>by have:=b2 d m;ext c,p2))
  .have h0:=h 0 a rfl;ext iV
  .cases i with
   |zero=>ext g;exact Ĝ2
   |succ i=>
    have:=a2 i n e;rw[ės]at this;ext n
  .ext dS;ext ax
   .lia
   .have:=b2 d m;ext c
abbrev apB:MB:=(ĤX)
structure ApS[477](c:ýA)(s:ai):Prop where
 o_:İq
 h_:s[H]?=some (.lst [.loc HL])
 l_:Ĳ3
 hl:s[HL]?=some (.lst ĎX)
 ac:ŅE
 ad:Gm s ds c 0
 pu:ĳa
structure ApF[477]:Prop where
 ln:üs=ú_
 le:üs<=1000
 nc:Ęt
 nd:ĲZ
 oc:ŀ2
 lo:L<ρ
 od:∀n∈ds,ρ<n/\n<HL
 lh:HL<H
def RJ(h:Ęt)(hi:cs[i]?=āf)(hj:cs[j]?=some m)(ne:i≠j):n≠m:=by
 rw[įq]at h;let⟨l1,e1⟩:=ùj hi;let⟨l2,e2⟩:=ùj hj;rcases Nat.lt_or_gt_of_ne ne with z|z
 .have:=h i j l1 l2 z;rw[e1,e2]at this;ext c
 .have:=h j i l2 l1 z;rw[e1,e2]at this;ext c
def QE{ρ HL H:Nat}[202][452](A:İN)(hj:j<üs)(lj:ļR<1000000):
  ∃(c':ýA)(s':ai),apB ĭ9 s=.nx ĭ9 s'/\įl/\(Ĵb)/\(c' j).length=ļR+1/\ĨA:=by
 ext b;obtain⟨a,ha⟩:∃a,cs[j]?=Ō:=ŁB
 obtain⟨b,hb⟩:∃b,ds[j]?=ġ:=(_,ħ (by rw[<-F.ln];exact hj))
 have ma:=øC ha;have mb:=øC hb;have oa:=F.oc a ma;have ob:=F.od b mb;have lo:=F.lo;have lh:=F.lh;have A0:=A.ac j a ha;have D0:=A.ad j b hb;rw[Ť]at A0 D0;let⟨s1,b_⟩:=NE (ź a Ėp)
 let⟨s2,cO⟩:=NE (ÿX b Ėp)
 ext a;have k1:∀{n k},n≠a->ĺU:=λ{n k}h e=>by rw[b_];exact aV e ğO
 have k2:∀{n k},n≠a->n≠b->ùF=ō->s2[n]?=ō:=λ{n k}h h' e=>by rw[cO];exact aV (k1 h e) λz=>h' øP
 have D1:s1[b]?=some (.lst (c j)):=k1 ø D0;have a1:s1[a]?=ĢT:=by rw[b_];exact ő (bu A0)
 have a2:s2[a]?=ĢT:=by rw[cO];exact aV a1 ø
 have b2:s2[b]?=ĢT:=by rw[cO];exact ő (bu D1)
 obtain⟨c',bW⟩:∃c':ýA,c'=λi=>if i=j then c j++üO else c i:=ę
 have cj:c' j=c j++üO:=by rw[bW];exact Ī
 have ci:Ĵb:=λi h=>by rw[bW];exact üo
 have A2:ApS L ρ HL H cs ds c' s2:=by
  refine(k2 ø ø A.o_,k2 ø ø A.h_,k2 ø ø A.l_,k2 ø ø A.hl,ĝ_,ĝ_,Ĥx)
  .rw[Ť];ext aH
   .rw[z,ha]at e;ext g;rw[z,cj];exact a2
   .rw[ci i z];have h0:=A.ac i n e;rw[Ť]at h0;have:=F.oc n ēq;exact k2 (RJ F.nc e ha z) ø h0
  .rw[Ť];ext aH
   .rw[z,hb]at e;ext g;rw[z,cj];exact b2
   .rw[ci i z];have h0:=A.ad i n e;rw[Ť]at h0;have:=F.od n ēq;exact k2 ø (RJ F.nd e hb z) h0
  .ext aH
   .rw[z,cj];have:∀us:ý,dW 12 us=true->ļf=true:=λus=>by
     induction us with
     |nil=>intro _;rfl
     |cons u us ih=>
      intro h;unfold dW at h;rw[úx]at h;show(Bg 12 u&&ļf)=true;rw[h.1,ih h.2];rfl
    exact this _ (A.pu j)
   .rw[ci i z];exact A.pu i
 refine(c',s2,?_,A2,ci,by rw[cj,Ď];rfl,by rw[cO,b_,Ŕ,Ŕ],λn k h1 h2 e=>k2 (λz=>h1 (z▸ma)) (λz=>h2 (z▸mb)) e);have e16:i? 16 s2 (.loc ρ) Ēg=Ğ:=by
  have e14:=RI 12 A2.pu cs ds 0 F.ln A2.ac A2.ad;have e15:İo=Ğ:=by ext bH;simp only[vw,a! A2.l_,a! A2.hl];exact e14
  ext bH;simp only[vw,a! A2.o_,a! A2.h_];show(match İo,Ğ with|Ō,ġ=>ĈJ|_,_=>none)=_;rw[e15];rfl
 have n1:=D? e16;have⟨o0,h0,l0,q0,_,_,_⟩:=A;have ca:ćm[j]?=ĢP:=by rw[ĭ,ha];rfl
 have da:ĎX[j]?=some Đe:=by rw[ĭ,hb];rfl
 subst b_ cO
 ac_rfl
theorem Gp{L ρ HL H:Nat}{cs ds:þ}[452]:∀[295](c:ýA)(s:ai)[41],İN->j+m=üs->(∀i,ěI<=20001)->(∀i,j<=i->ěI<=20000) ->
  ∃(c':ýA)(s':ai)(y':ć),forL øf ød apB ûN [ċP, qL H, qI 0, y] s=.nx [ċP, qL H, qI 0, y'] s'/\įl/\ĬZ/\ĨA
 |0,j,c,s,y,A,_,hl,_=>(c,s,y,þ9,A,hl,rfl,λn k _ _ e=>e)
 |m+1,j,c,s,y,A,h,hl,hj=>by
  ext b;have lj:=hj j ě;let⟨c1,s1,e1,A1,n1,l1,k1,f1⟩:=QE F A (j:=j) ø ø;let⟨c2,s2,y2,e2,A2,l2,k2,f2⟩:=Gp F m Ķ c1 s1 ûJ A1 ø (λi=>by
   ext aH
   .rw[z];ext c
   .rw[n1 i z];exact hl i) (λi hi=>by rw[n1 i ø];exact hj i ø)
  ext a;exact(c2,s2,y2,čS,A2,l2,ø,λn k a b e=>f2 n k a b (f1 n k a b e))
def MM{ρ:Nat}[202](ho:İq)(hL:Ĳ3)(ac:ŅE)(pu:ĳa)(lc:∀i,ěI<=20000)(le:üs<=1000)(nc:Ęt)(oc:ŀ2)(lo:L<ρ):
  ∃(c':ýA)(s':ai),_E.fT [.loc ρ] s=ĐZ/\Gm s' cs c' 0/\ĬZ/\û0/\∀n k,ĢE->čf:=by
 ext b;let⟨ds,s1,e1,l1,x1,a1,b1,p1⟩:=Gn cs 0 s [] none ġs ac;let⟨s2,cO⟩:=NE (s1++[ą ĎX])
 let⟨s3,jT⟩:=NE (s2++[ą [ĒN]])
 ext a;ext cH
 ext eC
 have x23:=üp x3;have x13:=úB x23;have l2:üc=úw+1:=by rw[cO,Ď];rfl
 have lO:=bu ho;have F:ApF L ρ úw üc cs ds:=(l1.symm,le,nc,p1,oc,lo,λn m=>by have:=b1 n m;ext c,ø)
 have A:ApS L ρ úw üc cs ds c s3:=(x13.2 _ _ ho,Ěi,x13.2 _ _ hL,x3.2 _ _ ĘW,ac.to x13,a1.to x23,pu)
 let⟨c',s4,y,e4,A4,l4,k4,f4⟩:=Gp F üs 0 c s3 none A ø (λi=>by have:=lc i;ext c) (λi _=>lc i);refine(c',s4,?_,A4.ac,l4,by have:=x13.1;ext c,λn k h e=>f4 n k h (λm=>?_) (x13.2 _ _ e))
 .rw[<-cR]at e4;have cl:aY (λs'=>ar s' ρ=some ąQ) ĩ aU Ĭs ąQ [none] s []=.ok [ĒN] s2:=by rw[cO];exact fW (a! ho) rfl rfl ŀ (ji ŀ)
  have ln:c7 ąQ s3=.ok (.int (üs:Int)) s3:=by rw[je (a! A.l_),č]
  have fo:forL øf Ą8 (fj Ĩo ød apB) (dh 0 [ž L].length) [ċP, qL üc, qn, qn] s3=.nx [ċP, qL üc, qI 0, y] s4:=show forL _ _ _ üO _ _=_ from dD trivial ŀ rfl (ğD)
  subst jT;unfold _E.fT
  ac_rfl
 .have:=b1 n m;ext bz;ext c
open _L (gY gE iN zN)
section
variable[129][62]
theorem B6{a:Nat}(ha:a<=100)[282][58][87][217]:∀[165][145][54],ĈX->j+m<=10->(∀u∈ts,Ă0/\ęY) ->
  ∃(ts':ú)(s':ai),aY øf ĩ aU drE ûN [x, qI ĉQ, qL S, ż] s ĉr=.ok (ts'.map tM) s'/\ts'.length=üf+m/\Ĵ/\∀u∈ts',Ă0/\ęY
 |0,j,s,ts,x,_,_,h=>(ts,s,Ĉ0,rfl,úP,h)
 |m+1,j,s,ts,x,hS,hj,h=>by
  let⟨o,c1,c0⟩:=gY (k:=ĉQ+1+ù0) hS ø ø hl;let⟨es,k,s1,e1,x1,g1,g2,g3,g4⟩:=zN (s:=s++üS) ht hm p2 p3;have x2:ýV:=ĿD x1;let⟨ts',s3,e3,l3,x3,r3⟩:=B6 ha ht hm p2 p3 hl m Ķ s1 (ts++[%[es|k]]) ûJ (ĄO hS) ø (λu hu=>by
   ext mr
   .exact h u hu
   .rw[ţ hu];exact ġw)
  rw[Ŋ]at e3;exact(ts',s3,fW (v:=ÿW) trivial rfl rfl ŀ e3,İf,üp x3,r3)
def Ea{a:Nat}(ha:a<=100)[282](h8:t<=8)[12][58][87][209]:
  ∃(row:ú)(q:Nat)(s':ai),ąT [ý5,.int ĉQ,þA] s=.ok ąG s'/\s'[q]?=þg/\Ĵ/\û6/\(∀u∈row,ęY)/\Ĉ2<=8/\ē<=q:=by
 let⟨o,c1,c0⟩:=gY (k:=ĉQ) hS ø ø hl;ext bN
 rw[<-b_]at c1;ext W
 have qm:=gL (m:=ěK) ø o;obtain⟨n,hn⟩:∃n:Nat,úC=ŃG:=((ŃG).toNat,ø)
 let⟨ts,s2,e2,l2,x2,h2⟩:=B6 ha ht hm p2 p3 hl n 0 s1 [] none Ġh ø (đn);let⟨s3,jT⟩:=NE (s2++[ą ĉr])
 ext eC
 have lt:üf=n:=ĳX
 let⟨row,q,s4,e4,q4,x4,lq,_,S4,m4,l4⟩:=pQ (s:=s3) p2 m1 (λu mu=>(h2 u mu).1) ø (Ěi);refine(row,q,s4,?_,q4,(úS).trans (ĉN x4),S4,üa,ø,by ext bA;ext dS;ext dT;ext c)
 .have md:cw Ēf (.int (ěK)) s1=.ok ăV s1:=by rw[ÿI,hn]
  have ln:(dh 0 n).length<=1000000:=Čr
  rw[Ĺ,<-cR]at e2;subst b_ jT;unfold ąT
  ac_rfl
 .let⟨w,mw,e⟩:=m4 u mu;rw[e];exact(h2 w mw).2
open e
def jC[46]:Nat:=(if aj=1 then 8 else if aj=2 then 6 else 4)
def QF[129][12][58]:
  ∃s',_E.lU [þA] s=.ok ī4 s'/\Ĵ:=by
 rcases ĵG with rfl|rfl|rfl<;>exact(_,by unfold _E.lU;ac_rfl,ùO)
def zV[46]:ā6<=8:=by unfold jC;split;ext c;ext bo
def t?[46]:ÿz<=8:=by unfold d9;split;ext c;ext bo
open _L (gY gE iN)
def aaV{P:ú}[13][25](h:ğs % p≠0):Đ9 ≠[]:=by
 ext kY
 ext iF
 ext js
 have gA:ğs=dG A e:=ħL
 rw[gA]at h;have inA:e∈ü6:=by apply įm;intro z;rw[fF z,Ĉb]at h;exact h rfl
 let⟨u,mu,eu⟩:=Ĕ inA;replace eu:u.1=e:=eu;have m:%[iE e|Ķd]∈jM p Ċ7:=by
  ext iD;refine((iE e,İF,rfl),?_)
  .rw[ğ];exact ăd (u,mu,by show ĊQ=_;rw[eu])
  .show(Ķd !=0)=true;rw[pO,bne_iff_ne];unfold gy;rw[Ŗ,Ćk];ext j
 rw[eg];exact List.ne_nil_of_mem m
structure FoF[46](ig:ûs)(last:þ):Prop where
 ln:ig.length=4
 tp:∀e∈ig,āK/\(Ğd)/\e≠last/\e≠Ēw
 la:last.length=aj/\∀x∈last,ĔQ
structure Eb[34][46][147]:Prop where
 ne:l≠[]
 su:đX
 bd:∀u∈l,ĕW
 le:Ÿ<=8
abbrev foB:MB:=(Ĥz)
section
variable[129][62]{ig:ûs}{last:þ}
def QG{TP Fc:Nat}(F:ěj)[87][12][58][209](hT:s[TP]?=ĚJ)(hF:s[Fc]?=čh)(lr:Ŭ<=4)(hj:j<4)(SF:S≠Fc):
  ∃(r:ùB)(z6 z7:ć)(s':ai),foB [qL S, ż, ċN, Ć4, qL Fc, ĊW, y6, y7] s=.nx [qL S, ż, ċN, Ć4, qL Fc, ĊW, z6, z7] s'/\ģ3=some (.lst ((rows++[r]).map ĂW))/\ăI/\ē<=r.1/\ýl/\ıe:=by
 ext b;obtain⟨e,he⟩:∃e,ig[j]?=some e:=(_,ħ (by rw[F.ln];exact hj))
 let⟨f1,f2,f3,f4⟩:=F.tp e (øC he);let⟨o,c1,c0⟩:=gY (k:=50+ù0) hS ø ø hl;have qa:=gL (m:=p-1) ø o;let⟨k1,hk1⟩:=NE (1+o.fmod (p-1))
 let⟨k2,Pg⟩:=NE ((o.fdiv 97).fmod p)
 let⟨k3,hk3⟩:=NE ((o.fdiv 9409).fmod p)
 let⟨s2,cO⟩:=NE (ĔI++[ą ħC])
 let⟨s5,ni⟩:=NE (ŀw++[ą (ĢF)]++[ą Īa])
 let⟨P,hP⟩:=NE ([%[e|k1],%[last|k2],%[Ēw|k3]]:ú)
 let⟨s6,v_⟩:=NE (s5++[ą (ħC++Īa)])
 have RK:Xt s s6:=by subst cO ni v_;ac_rfl
 have mP:∀u∈P,Ă0/\∀x∈u.1,ĔQ:=λu mu=>by
  rw[hP]at mu;ext ma
  .exact(f1,f2)
  .ext ma
   .exact F.la
   .rw[ţ mu];exact(þi,λx mx=>by rw[į_ mx];ext as)
 let⟨row,q,s7,e7,q7,x7,lq,et,S7,m7,l7⟩:=pQ (s:=s6) p2 m1 İL (by rw[hP];show 3<1000000;decide) (by rw[v_,hP];ext B);have ne:row≠[]:=λz=>by
  have:=aaV (p:=p) (P:=P) ø (by
   rw[hP];show((if e=e then 1 else 0)*k1+((if last=e then 1 else 0)*k2+((if Ēw=e then 1 else 0)*k3+0))) % p≠0;rw[Ī,if_neg (λz=>f3 øP),if_neg (λz=>f4 øP),show ÿw*k1+(0*k2+(0*k3+0))=k1 by ext c,ņX];ext c)
  rw[et,z]at this;exact this rfl
 have F7:=x7.2 _ _ (RK.2 _ _ hF);have lF:=bu hF;have l06:=RK.1;let⟨s8,Iw⟩:=NE (s7.set Fc (.lst (úk++[üB])))
 ext a;refine(%[q|row],some Ēf,some (.loc (ĔI).length),s8,?_,?_,by rw[Iw];exact aV q7 (by show Fc≠q;ext c),by show ē<=q;ext c,(ne,S7,üa,by rw[hP]at l7;exact ģ l7 (by show 3<=8;decide)),by rw[Iw,Ŕ];have:=x7.1;ext c,λn k h e=>by rw[Iw];exact aV (x7.2 _ _ (RK.2 _ _ e)) ğO)
 .have zr:EI Ĺk [Ė 0]=ĢF:=by rcases ĵG with rfl|rfl|rfl<;>rfl
  have ml:=UM (st:=ŀw) (k:=ćC) ĕc ø ø (by ext dz;show 1*Ĺk<=_;ext c);rw[zr]at ml;have ie:ĥS[j]?=Ĉ4:=by rw[ĭ,he];rfl
  subst hk1 Pg hk3 cO ni v_ Iw
  ac_rfl
 .rw[Iw,ő (bu F7),Ŋ];rfl
 .ext b;let⟨w,mw,ew⟩:=m7 u mu;ext a;ext nq
open e
def adi:ûs:=([[3,0],[2,1],[1,2],[0,3]])
def adj:ûs:=([[2,0,0],[0,2,0],[1,1,0],[0,0,2]])
abbrev foA:MB:=(ĪP)
abbrev foI:MB:=(ĤG)
abbrev foE:ME:=(ĩF)
abbrev foC:MB:=(aN 3 (ax n_ (ag (b9 1 [1] ęy ĩ aU foE) aw)))
section
variable[129][62]
def aaW(hm:ğe):∃(TP:Nat)(ig:ûs)(last:þ)(s':ai),ěj/\s'[TP]?=ĚJ/\Ĵ/\∀rest:MB,aB foA (aB foI (aB foC rest)) [qL S, ż, qn, qn, qn, qn, qn, qn] s=rest [qL S, ż, ċN, Ć4, qn, qn, qn, qn] s':=by
 ext b;let⟨s1,b_⟩:=NE (s++[ą [.tup [ùC,ø5],.tup [øc,ùy],.tup [ùy,øc],.tup [ø5,ùC]]])
 ext a;rcases hm with rfl|rfl
 .have cl:aY øf ĩ aU foE (dh 0 2) [none,some (gE p d 2 top t c)] s1 []=.ok ŁV s1:=show aY _ _ _ _ [ø5,ùy] _ _ _=_ from ĦH
  ext aN;exact(ē,adi,[0,1],_++[ą ŁV],Ļx,dM ĕc _,Ďm,ņ5)
 .ext b;let⟨s2,cO⟩:=NE (s1++[ą [.tup [øc,ø5,ø5],.tup [ø5,øc,ø5],.tup [ùy,ùy,ø5],.tup [ø5,ø5,øc]]])
  have cl:aY øf ĩ aU foE (dh 0 3) [none,some (gE p d 3 top t c)] s2 []=.ok ļY s2:=show aY _ _ _ _ [ø5,ùy,øc] _ _ _=_ from fW trivial rfl rfl rfl (ĦH)
  subst b_ cO;ext a;exact(_,adj,[0,0,1],_++[ą ļY],Ļx,dM ĕc _,(Ďm).trans ċf,ņ5)
theorem Gq{TP Fc:Nat}{ig:ûs}{last:þ}(F:ěj)[87][12][58][217](SF:S≠Fc)(TF:TP≠Fc):∀[165][52](y5 y6 y7:ć),j+m=4->Ŭ=j->ĈX->s[TP]?=ĚJ->s[Fc]?=čh->(∀r∈rows,ùW/\ŀS) ->
  ∃(bO:dQ)(s':ai)(z5 z6 z7:ć),forL øf ýU foB ûN [qL S, ż, ċN, Ć4, qL Fc, y5, y6, y7] s=.nx [qL S, ż, ċN, Ć4, qL Fc, z5, z6, z7] s'/\ĉg=4/\ģ3=some (.lst ěH)/\(∀r∈bO,ăI/\ŀS)/\ıe
 |0,j,s,rows,y5,y6,y7,h,hn,hS,hT,hF,hr=>(rows,s,y5,y6,y7,þ9,ø,hF,hr,ł,Ń_)
 |m+1,j,s,rows,y5,y6,y7,h,hn,hS,hT,hF,hr=>by
  let⟨r,z6,z7,s1,e1,F1,r1,lr1,R1,l1,k1⟩:=QG F p2 p3 m1 hm hl hS hT hF ø (j:=j) ø SF;have lF:=bu hF;let⟨bO,s2,w5,w6,w7,e2,l2,F2,r2,n2,k2⟩:=Gq F p2 p3 m1 hm hl SF TF m Ķ s1 (rows++[r]) ûJ z6 z7 ø (by rw[Ď,hn];rfl) (by
   let⟨cl,g1,g2,g3⟩:=pH hS;exact g3 s1 (k1 _ _ SF g1)) (k1 _ _ TF hT) F1 (λq mq=>by
   rcases ùi mq with mq|mq
   .exact(k1 _ _ (λz=>ĞH.2.2 øP) ĞH.1,ĞH.2)
   .rw[ţ mq];exact(r1,R1,ø))
  exact(bO,s2,w5,w6,w7,čS,l2,F2,r2,ø,λn k a e=>k2 n k a (k1 n k a e))
def QH(hm:ğe)[87][209]:
  ∃(Fc:Nat)(rows:dQ)(s':ai),_E.pA [ý5,þA] s=.ok (.loc Fc) s'/\ģ3=čh/\(∀r∈rows,ăI/\ýl)/\Ŭ=4/\Ĵ:=by
 let⟨TP,ig,last,s1,F,T1,x1,e1⟩:=aaW (p:=p) (d:=d) (top:=top) hm;ext eV
 ext cH
 have lT:=bu T1;have h1:=ûp hS;have lS:=pF h1;let⟨rows,s3,z5,z6,z7,e3,l3,F3,r3,n3,k3⟩:=Gq (Fc:=s1.length) F p2 p3 ø ø hl ø ø 4 0 s2 [] none none none ø rfl (ĄO h1) (x2.2 _ _ T1) ĘW ď8;refine(úw,rows,s3,?_,F3,λr mr=>(ńP.1,ńP.2.1),l3,(by ext bA;ext dS;ext c,λn k e=>k3 n k (by ext bz;ext bA;ext c) (x2.2 _ _ (x1.2 _ _ e))));rw[<-cR]at e3;subst cO;refine Qk rfl rfl (r:=.rt þ7 s3) ((e1 _).trans ?_) rfl
 ac_rfl
open e
open e _I
namespace _M
open PySem.Spec _A _D
open PyProof.Rows hiding St
def adk:úo:=([%[Ďi|Ćv],%[Ďi|Đc],%[Ďi|Đb],%[Ďi|Đa],%[ĂG|Ćv],%[ĂG|Đc],%[ĂG|Đb],%[ĂG|%[ĂG|true]],%[ĂK|Ćv],%[ĂK|Đc],%[ĂK|%[ĂK|true]],%[ĂK|Đa],%[ďi|Ćv],%[ďi|Đc],%[ďi|Đb],%[ďi|Đa],%[ĂL|Ćv],%[ĂL|%[ĂL|true]],%[ĂL|Đb],%[ĂL|Đa]])
def tab:úo:=(adk++acs ĕT)
def kn:Vf:=(ĕT)
def bJ:FN:=(fL 4 5 (aB (xJ (A7 (knL kn) (bH (ax ûI (Ua Ė4))) (Uc úN "AlgebraError" 4 (bb (bL (ag (rV úN kn 4 "NoPrime") (ag (rV úN kn 4 "NoOrder") (ag (rV úN kn 4 "ByNought") (ag (Hn úN 4 "ValueError") aw)))))) ab1))) (bb þS)))
def e_:FN:=(fL 4 9 (aB (aN 4 (ao aQ (bL (ag bp (ag cG (ag JY (ag (mC (.int 998)) (ag (yT Ļp) (ag (mC (.int 961)) (ag ĂF (ag ĉp (ag (qs "7") (ag (mC (.int 1009)) (ag (mC (.int 32003)) aw)))))))))))) (ao cw bX Hb))) (aB (aN 5 (ao aQ (bL (ag (qs "") (ag (qs "Lex") (ag (qs "LEX") (ag (qs "degree") (ag (qs "grevlex") (ag (qs "deglex") (ag (qs "revlex") (ag ĉp ø6))))))))) (ao cw (ao iL bX Hb) (mC ğS)))) (aB (aN 6 (ao cw (ao iL bX (mC (.int 99))) (ao cA (ax Lj (ag v5 čT)) cG))) (aB (aN 7 (Q? (ao cA (ao cA (Q? bB xK (uS jS)) (bL Ĝh)) (Q? bB (uS jS) xK)) xK (uS JY))) (aB (fj (dy (cH (ag tJ (ag bB Ĝh)))) (az 8) (ĤB)) (bb (ao jc (ax bJ (ag þH (ag ć5 (ag bo ŁG)))) (bL (ag ÿ5 (ag ÿ5 (ag ĂF ľ5))))))))))))
def yh:MB:=((bb (wg (ao jc ďC (ao aQ A3 bp)) (ao jc ĘU (ao aQ A3 cG)))))
def yi:MB:=((aB (bH (ax ûI (ag ýe (ag ĘS (ag (ax ąT (ag aM (ag Hb ùq))) ýd))))) yh))
def yj:MB:=((aB (aN 8 (bL (ag (b9 1 [] (dy ďC) ĩ aU ć6) (ag (ax kI ľ3) aw)))) yi))
def yk:MB:=((aB (dP (fJ ĵQ (fJ ı' Ħ1)) ť aT) yj))
def ym:MB:=((aB Ħo yk))
def jP:MB:=((aB ļP ym))
def yn:MB:=((aB (bH (fM bD ďC ø6)) jP))
def yo:MB:=((aB (bH (fM bD ĘU ø6)) yn))
def yp:MB:=((aB (dP (fJ Ħ1 (ck (bx (ax _E.fT (ag (bL (ag (ao cA ďC (bL ľ3)) aw)) aw))))) ť aT) yo))
def yq:MB:=((aB (fj (bZ (ag ľ9 aw)) (az 7) (Ĭ8)) yp))
def yr:MB:=((aB (bH (fM bD Č5 Ĝh)) yq))
def yt:MB:=((aB (bH (fM bD ĘT ø6)) yr))
def B7:MB:=((aB (dP (fJ ĵQ ı') ť aT) yt))
def B8:MB:=((aB Ħo B7))
def pT:MB:=((aB ļP B8))
def pU:MB:=((aB (dP (oU (bx (ao jc (ao cw gf Ě6) cG)) (ck (bx (ax e_ (ag bo (ag bB (ag bX (ag (ao iL gf Ě6) aw)))))))) ť aT) pT))
def pV:MB:=((aB (aN 4 (ax üP (ag aM (ag (mC (.int 39)) aw)))) pU))
def B9:MB:=((aB (dP (oU (bx (ao uI Ć2 cG)) (bx (ao jc (ao cw (ax üP (ag aM (ag (mC đq) aw))) v5) cG))) (aB (aN 3 (ax _E.pA Ĝf)) (aN 2 (ax ÿ1 (ag ýe (ag (ao cA (Q? bB xK (uS i!)) (b9 1 [1] ĉR ĩ aU (ĵT))) aw))))) aT) pV))
def B_:MB:=((aB (aN 3 (b9 1 [] ĉR ĩ (Ďv) aM)) B9))
def B!:MB:=((aB (aN 3 (b9 1 [0,1] (bZ (ag (ao cw (ax üP (ag aM (ag (mC (.int 38)) aw))) JY) aw)) ĩ aU (ĦB))) B_))
def vG:MB:=((aB (aN 2 (ax ąT (ag aM (ag i! ùq)))) B!))
def MQ:FN:=(fL 1 9 (aB (aN 1 (ax _E.lU (ag (ax _E.jK øp) aw))) vG))
open e _M
namespace _L
open PySem.Spec _A _D _I
open PyProof.Rows hiding St kindOf
def QI(v:au):Prop:=(Ā6/\∀st,∃g,ċC [v] st=.err "NoPrime" ùz)
def Gr{v:au}(h:∀st,ģC):QI v:=by
 refine((h []).1,λst=>?_);let⟨g,e⟩:=(h st).is;refine Ĕc;show(dP (fJ Ĉ8 _) ĕN aT üR st).fin=_;have t1:bx ľH üR st=ĿM:=jy (by rw[c_ (jN (iV rfl (h st).1)),e]);have t2:ck ĕL üR st=Đg:=by rw[mO,t1];rfl
 have t3:∀u:MT,fJ Ĉ8 u üR st=Đg:=λu=>by rw[n!,t2,aJ,yZ]
 rw[zC (t3 _),o!,ąt,bI,tQ,Čc];rfl
def adl:QI ùg:=by
 refine(rfl,λst=>?_);let⟨g,e⟩:=jh 0 st;refine Ĕc;show(dP ļT ĕN aT Ēz st).fin=_;have t1:ck ĕL Ēz st=ĿM:=Rz (jy (by rw[Ĉh,e];rfl));have t2:bx ĖX Ēz ùz=Đg:=jy (by rw[iY rfl rfl];rfl);have t3:fJ Ĉ8 Ĝ9 Ēz st=Đg:=by rw[n!,t1,aJ,tP,t2]
 rw[zC t3,o!,ąt,bI,tQ,Čc];rfl
abbrev IA:ý:=[ø5,ùy,āP,.int 998,.int (-7),.int 961,Ż,.cq,.str "7",.int 1009,.int 32003]
def Gu:∀v∈IA,QI v:=by
 intro v hv;have I:∀n:Int,nN n=false->QI ÿS:=λn h=>Gr λst=>L7.int h st;simp only[IA,ăz,ĎP,or_false]at hv;rcases hv with rfl|rfl|rfl|rfl|rfl|rfl|rfl|rfl|rfl|rfl|rfl
 .exact adl
 ext aR
 ext aR
 ext aR
 ext aR
 ext aR
 .exact Gr λst=>L7.odd (rfl,"bool",rfl,øi)
 .exact Gr λst=>L7.odd (rfl,"NoneType",rfl,øi)
 .exact Gr λst=>L7.odd (rfl,"str",rfl,øi)
 ext aR
 ext aR
abbrev MR:ý:=[.str "",.str "Lex",.str "LEX",.str "degree",.str "grevlex",.str "deglex",.str "revlex",.cq,ø5]
def Gv:∀v∈MR,NoO v:=by intro v hv;simp only[MR,ăz,ĎP,or_false]at hv;rcases hv with rfl|rfl|rfl|rfl|rfl|rfl|rfl|rfl|rfl<;>exact(ù',rfl)
section
variable{v o:au}
def aaX[446][115][238](ha:A u Z=Ą2)(hb:ĈZ=Ņo):İm=Ņo:=by ext ch;ext bD;ext d;rw[hb]
def MS[446][238](ha:A u Z=Ą2)(hb:ĈZ=.nx ul bP):İm=forL g A body us ul bP:=by rw[forL,û4,ha];ext d;rw[hb]
theorem zW[6]{x:ć}(hR:Ā4):∀(kq:þ)[41],(įO)->(ėu) ->
  ∃y',forL þs ēi ĕn (ċK) ÿQ s=.er "ByNought" [x,y'] s
 |[],_,_,h=>by let⟨q,m,_⟩:=h;cases m
 |q::kq,y,hq,h=>by
  let⟨vs,hv⟩:=hq q ċ;have t:bx ĵt [x,þF] s=.ok ((Ş:Int)==0) s:=jy (by
   rw[acJ (by rw[Ĉh,je (a! hv)])])
  cases vs with
  |nil=>
   refine(þF,?_);refine aaX (pc:=[x,þF]) hR rfl ?_;rw[zC (t),o!,ąt,bI,tQ,Čc]
  |cons w vs=>
   let⟨y',e⟩:=zW hR kq (þF) (λr m=>hq r ŕ) (by
    let⟨r,m,e⟩:=h;ext ax
    .rw[hv]at e;ext g
    .exact(r,m,e))
   exact(y',(MS hR rfl (RA t)).trans e)
open e
open e _L
namespace _M
open PySem.Spec _A _D _I
open PyProof.Rows hiding St kindOf
open _L (gE iN QI IA MR Gu Gv zW MS aaN)
section
variable{v o:au}
def MU(h:QI v)(ho:ğF)(r:au)[163]:∃g,ûI Ņ2 s=.err "NoPrime" øQ:=by let⟨g,e⟩:=h.2 s;refine Ĕc;ext eN;rw[dJ,kj,c_ (jN (iV rfl h.1)),e];rfl
def MV[49](h:NoO o)(r:au)[163]:∃g,ûI Ŀ9 s=.err "NoOrder" øQ:=by ext kn;ext eN;rw[dJ,ĸL,gP,dJ,kj,ĲT,vk h];rfl
def IB[309](h:ėu):∃g,ûI čF s=Ĵz:=by
 ext kn;ext b;have x:Xt s øQ:=üK g;let⟨y,en⟩:=zW (R:=R) (x:=ă') (Ą' hR) kq none (λq m=>let⟨vs,hv⟩:=hq q m;(vs,x.2 _ _ hv)) (let⟨q,m,hv⟩:=h;(q,m,x.2 _ _ hv));have nn:ąR ċy øQ=Ĵz:=by unfold ąR;rw[d! (np:=1) (us:=[ž R]) rfl];show(fj _ _ _ [ă',none] øQ).fin=_;rw[y_,kl,show aM [ă',none] øQ=.ok ċj øQ from rfl,aJ,mQ (Ą' hR),bI,E4,en];rfl
 let⟨o,ho⟩:=NE (ùY:au)
 ext a;have ox:ğF:=by rw[ho];rfl
 rw[<-ho];ext eN;rw[dJ,ĸL,gP,dJ,pD (by rw[c_ (jN (iV rfl ox)),ho,lY]),gP,dJ,kj,Ĉh,nn];rfl
def zZ{a b r:au}[115]{g:ai}{b0 b1:Bool}(ha:we a=false)(hb:we b=false)[163](e:ûI Ğs s=.err c øQ)(hk:ķe)(h0:h! tab c "NoPrime" = some b0)(h1:h! tab c "NoOrder" = some b1)(h2:h! tab c "ByNought" = some b2)(hA:h! tab c "AlgebraError" = Ğ)(hV:Ĳ0 = Ğ):
  bJ Ğs s=įk:=by
 ext b;let⟨s1,b_⟩:=NE øQ
 ext a;rw[<-b_]at e⊢;have q:∀[4]{b':Bool},h! tab c x=some b'->rV úN kn 4 x ėd s1=.ok (.bl b') s1:=λ{x b'}h=>by unfold rV;show(if ķe then _ else _)=_;rw[Ąs,h]
 have qV:Hn úN 4 "ValueError" ėd s1=Ğ3:=by show(match Ĳ0 with|Ğ=>Ŝ (au.bl true) s1|_=>.bad)=_;rw[hV]
 have arg:Ua Ė4 ĮO s=.ok Ğs s:=by rw[UB,Bz (iV rfl ha) (Bz (iV rfl hb) (Qe rfl (iV rfl hr))),UC]
 show(aB (xJ (A7 (knL kn) _ _)) _ ĮO s).fin=_;rw[dJ,KY,UE,kj,c_ arg,e,OZ,O7 (show knL kn c=true from hk),acj hA];show((uQ (bb _ ėd s1)).O5.de _).fin=_;rw[DX (DV (Bz (q h0) (Bz (q h1) (Qe (q h2) qV))) (by show 4<=1000;decide)),HB,O6,uW];rfl
open e
def chk{args:ý}{b0 b1:Bool}(ht:∃g,bJ args s=įk):∃n s1,bJ args s=ć7/\ýV/\gC Ħ þ7 ćz=.ok új ćz/\jc Ħ þ7 ćz=.ok øz ćz:=by
 ext b;let⟨g,ht⟩:=ht;let⟨s1,b_⟩:=NE (øQ++[ą Ćd])
 have e:i? 16 ćz ĆJ þ7=Ğ:=by ext bH;simp only[vw,br,(üK [ą Ćd]).items (a! (show s1[Ļy]?=_ by rw[b_];ext B))];exact iy _ 14 Ćd rfl
 ext a;exact(_,s1,by rw[ht,b_],by rw[b_];exact(üK g).trans ċf,D? e,aaU e)
def MW{v o r:au}(h:QI v)(ho:ğF)[163]:∃g,bJ Ņ2 s=.ok ĆJ (øQ++[.lst [Ż,ùR,ùR,Ż]]):=by let⟨g,e⟩:=MU h ho r hr;exact(g,zZ h.1 ho hr e Ų Ų Ų Ų Ų Ų)
def aaY{o r:au}[49](h:NoO o)[163]:∃g,bJ Ŀ9 s=.ok ĆJ (øQ++[.lst [ùR,Ż,ùR,Ż]]):=by let⟨g,e⟩:=MV hp h r hr;exact(g,zZ rfl h.px hr e Ų Ų Ų Ų Ų Ų)
def aaZ[309](h:ėu):∃g,bJ čF s=.ok ĆJ (øQ++[.lst [ùR,ùR,Ż,Ż]]):=by let⟨g,e⟩:=IB hp hR hq h;exact(g,zZ rfl rfl rfl e Ų Ų Ų Ų Ų Ų)
abbrev rfB:MB:=(ĤB)
section
variable[129]
def QJ{x5 x6:ć}{v o r:au}[49](hv:QI v)(ho:NoO o)[163]:
  ∃s',rfB ĨI s=.nx ĨI s'/\Ĵ:=by
 have i1:=hv.1;have i2:=ho.px;let⟨n1,s1,t1,x1',e1,_⟩:=chk (MW hv ho.px hr);let⟨n2,s2,t2,x2',e2,_⟩:=chk (MW (o:=ùY) hv rfl hr);let⟨n3,s3,t3,x3',e3,_⟩:=chk (aaY hp ho hr)
 ac_rfl
theorem Gw{x1 x2 x5 x6:ć}{v o:au}[49](hv:QI v)(ho:NoO o):∀(rs:ý)(s:ai)[41],(∀r∈rs,we r=false) ->
  ∃s' y',forL øf (az 8) rfB rs [ż, ċO, x1, x2, Ĥ, Ă, x5, x6, y] s=.nx [ż, ċO, x1, x2, Ĥ, Ă, x5, x6, y'] s'/\Ĵ
 |[],s,y,_=>(s,y,ğD,úP)
 |r::rs,s,y,h=>by let⟨s1,e1,x1'⟩:=QJ hp hv ho (ģR);let⟨s2,y',e2,x2'⟩:=Gw hp hv ho rs s1 (ýz) ďz;exact(s2,y',čS,x1'.trans x2')
def Ec{m:Int}[309](hl:ăO<=4):
  ∃s',e_ [þA,Ā7,þQ,.int m] s=ĐZ/\Ĵ:=by
 have q1:=gL (m:=11) ø m;have q2:=gL (m:=9) ø (m.fdiv 11);let⟨v,iv,f3⟩:=rY (s:=s) (us:=IA) q1.1 q1.2;have hv:=Gu v iv;let⟨o,io,f4⟩:=rY (s:=ņx) (us:=MR) q2.1 q2.2;have ho:=Gv o io;let⟨s2,cO⟩:=NE (ņx++[ą MR])
 have x2:ĉ5:=by rw[cO];exact Ďm
 have oH:=ĄO hR
 -- II place
 obtain⟨w,hw1,hw2,hw3⟩:∃w:Nat,Lj [ùC,.int (ĹA:Int)] s2=.ok Ă1 s2/\w<=3/\w<=ăO:=by
  ext aW;ext w;show ∃w:Nat,Ŝ (Ė (if ĞQ<3 then ĞQ else 3)) s2=_/\_;by_cases z:ĞQ<3
  .rw[øO];exact(ăO,rfl,ø,ø)
  .rw[ů];exact(3,rfl,ø,ø)
 have q3:=gL (m:=üA+1) ø (Ġ4);obtain⟨at_,Cw⟩:∃at_:Nat,ę2=Įz:=((Įz).toNat,ø)
 have f5:cw (.int (Ġ4)) (.int (üA+1)) s2=.ok Łf s2:=by rw[ÿI,Cw]
 -- II rows with a aeQ among ae8
 let⟨s3,jT⟩:=NE (s2++[ą (ĶD)])
 let⟨s4,qG⟩:=NE (s3++üg)
 let⟨s5,ni⟩:=NE (s4++[ą [.loc øN]])
 let⟨s6,v_⟩:=NE (s5++[ą īE])
 let⟨s7,wI⟩:=NE (s6++[ą (ĶC)])
 let⟨s8,Iw⟩:=NE (s7++[ą (īE++ĶC)])
 let⟨qb,hqb⟩:=NE ((((ķf)++kq.drop at_).take 4):þ)
 let⟨s9,hs9⟩:=NE (s8++[ą (lV qb)])
 have y34:Xt s3 s4:=ĭa
 have y45:Xt s4 s5:=Ĭ'
 have y56:Xt s5 s6:=ĺy
 have y67:Xt s6 s7:=ĺA
 have y78:Xt s7 s8:=ĺs
 have y89:Xt s8 s9:=ĸp
 have y23:Xt s2 s3:=ĺw
 have y26:Xt s2 s6:=y23.trans (y34.trans (y45.trans y56));have y49:Xt s4 s9:=y45.trans (y56.trans (y67.trans (y78.trans y89)));have y29:Xt s2 s9:=y23.trans (y34.trans y49);have lq:ĹA=ăO:=by ext aW;ext w
 have g1:IM none Ł0 ċj s2=.ok ĝc s3:=by rw[y? oH,vj,jT]
 have g4:IM Ł0 none ċj s6=.ok (.loc đ7) s7:=by rw[y? (y26.items oH),L4 ø,wI]
 have g6:IM none (some 4) (.loc ĉi) s8=.ok (ěg) s9:=by rw[y? (by rw[Iw];exact br s7 _),show(4:Int)=((4:Nat):Int)from rfl,vj,hs9,hqb];ext aW;rw[ěW,Ŋ,Ŋ,ěW,List.map_drop];rfl
 have hB:ar s9 s8.length=some (lV qb):=by rw[hs9];exact br s8 _
 have e4:s4[øN]?=đd:=ĺx
 have bq:∀q∈qb,∃vs,s9[q]?=ćw:=λq m=>by
  rw[hqb]at m;have m:=ĘJ m;ext aP
  .ext aP
   .let⟨vs,h⟩:=hq q (ĘJ m);exact į4
   .ext cm;exact(_,ŃN)
  .let⟨vs,h⟩:=hq q (List.mem_of_mem_drop m);exact į4
 have be:∃q∈qb,s9[q]?=đd:=by
  refine(øN,?_,ŃN);rw[hqb];have la:(ķf).length<=4:=by rw[Ď,þv];show min at_ ăO+1<=4;ext c
  rw[List.take_append];refine Ću _ ?_;rw[ÿ' la];exact üX _ ĕg
 -- all are asked
 let⟨yf,B?⟩:=NE (s9++üg)
 have aeR:Xt s9 yf:=Ĭ_
 let⟨D5,y7,f7,adm⟩:=Gw (d:=d) (aj:=aj) (top:=top) (t:=t) (c:=c) (q0:=q0) (x1:=ă') (x2:=some (.int m)) (x5:=some Łf) (x6:=some (ěg)) hp hv ho [ěg,þQ,.loc s9.length] yf none (λr m=>by
  simp only[ăz,ĎP,or_false]at m;rcases m with rfl|rfl|rfl<;>rfl)
 have QK:=aeR.trans adm;let⟨n12,s12,t12,y12,_,f8⟩:=chk (aaZ hp (QK.items hB) (λq m=>let⟨vs,h⟩:=bq q m;(vs,QK.2 _ _ h)) (let⟨q,m,h⟩:=be;(q,m,QK.2 _ _ h)));have xx:=λg=>üp (y29.trans (QK.trans (y12.trans (üK g))));subst cO jT qG ni v_ wI Iw B?;exact(_,by unfold e_;ac_rfl,xx _)
open e
open e _M
namespace _I
open PySem.Spec _A _D
open PyProof.Rows hiding St kindOf
open _L (gY gE iN)
def MX(S:û6):Ŀx:=by
 ext hT
 ext hJ
def Gx(S:û6)(b:ěy):ěx:=λt mt=>(Đ2,λe me=>by have:=b t mt e me;have:=t? aj;ext c)
def Ed[12][58][150](h:Eb p aj l):IQ aj (Đh) p d l:=by have ft:=Gx h.su h.bd;exact(h.ne,by have:=h.le;ext c,ft,h.su.num,MX h.su,λv hv t mt u mu le=>aaR ø ø ńy ńx (h.bd u mu) (h.bd t mt) le)
def MY[12][58](S:û6)(b:ěy):nq aj (Đh) 20 p row:=(MX S,λt mt=>(Đ2,Qy ø (Đ2) (b t mt),Đ3))
structure MZ[34](aj q R:Nat)[240][52](s:ai):Prop where
 q_:ā9=þg
 R_:đ8
 r_:ďh
 sr:û6
 bd:ěy
 le:Ĉ2<=8
 Iy:∀r∈rows,ýl
 ll:Ŭ<=4
def MZ.to(h:ĆV)(x:úd):İW:=(ı1,ā' _ _ trivial h.R_,ĪW,h.sr,h.bd,h.le,h.Iy,h.ll)
section
variable[62]
abbrev byE:ME:=(ĦB)
theorem Gy[12][58][87][217]:∀[165][52][54],ĈX->j+m<=3->Īr ->
  ∃(bO:dQ)(s':ai),aY øf ĩ aU byE ûN [x, qL S, ûO] s úk=.ok ěH s'/\ĉg=Ŭ+m/\Ĵ/\∀r∈bO,ăI/\łm
 |0,j,s,rows,x,_,_,h=>(rows,s,Ĉ0,rfl,úP,h)
 |m+1,j,s,rows,x,hS,hj,h=>by
  let⟨row,q,s1,e1,q1,x1,S1,b1,l1,_⟩:=Ea (a:=11+9*j) ø ġC ġE m1 hm p2 p3 hl hS;have ml:du ğS ąH s=.ok (.int (9*ù0)) s:=mul_r ø ø;let⟨bO,s3,e3,l3,x3,r3⟩:=Gy m1 hm p2 p3 hl m Ķ s1 (rows++[%[q|row]]) ûJ Ġh ø (λu hu=>by
   ext mr
   .exact(x1.2 _ _ (h u hu).1,(h u hu).2)
   .rw[ţ hu];exact(q1,λne=>(ne,S1,b1,l1)))
  rw[Ŋ]at e3;exact(bO,s3,fW trivial rfl rfl ŀ e3,İf,úB x3,r3)
abbrev fiC:MT:=(Ďv)
theorem z9{R:Nat}[6]:∀[52](s:ai)(acc:dQ)[54],Ā4->Īr->(∀r∈acc,ùW/\ýl) ->
  ∃(bO:dQ)(s':ai),aY þs ĩ fiC aM úk [x] s (acc.map ĂW)=.ok ěH s'/\ĉg<=ğb+Ŭ/\Ĵ/\∀r∈bO,ăI/\ýl
 |[],s,acc,x,hR,_,h=>(acc,s,ji hR,ł,úP,h)
 |ýW,s,acc,x,hR,h,ha=>by
  ext b;ext my;have x1:Xt s (s++üS):=Ās;have hq:=λq m=>((x1.2 _ _ ĞG.1,ĞG.2):ĨY/\(q.2≠[]->ŅD))
  have hb:=λq m=>((x1.2 _ _ (ha q m).1,(ha q m).2):ĨY/\ŅD)
  have h3:=x1.2 _ _ h1;let⟨r1,r2⟩:=r;ext a;cases r2 with
  |nil=>
   ext b;let⟨bO,s2,e2,l2,x2,r2⟩:=z9 rows _ acc ĶI ĉt hq hb;ext a;exact(bO,s2,RE hR ŀ rfl e2,Āt,úS,r2)
  |cons a l=>
   ext b;let⟨bO,s2,e2,l2,x2,r2⟩:=z9 rows _ (acc++[%[r1|a::l]]) ĶI ĉt hq (λq m=>by
    ext aP
    .exact hb q m
    .ext cm;exact(h3,h2 ėL))
   rw[Ŋ]at e2;rw[Ď,Ăw]at l2;ext a;exact(bO,s2,fW hR ŀ rfl rfl e2,Āt,úS,r2)
abbrev hgE:ME:=(ĵT)
theorem Gz{s:ai}{R top t c:Nat}[6][12](hR:Ā4):∀[52](acc:ú)[54],(∀r∈rows,ùW/\ýl)->(∀u∈acc,Ģ7) ->
  ∃M3:ú,aY þs ĩ aU hgE úk [x,ż] s (ğc)=.ok (M3.map tM) s/\M3.length=ğb+Ŭ/\∀u∈M3,Ģ7
 |[],acc,x,_,h=>(acc,ji hR,rfl,h)
 |ýW,acc,x,hr,h=>by
  ext fs;let⟨u,mu,e1,_⟩:=t! m1 h1 h2.ne h2.su.len;let⟨M3,e2,l2,a2⟩:=Gz m1 hR rows (acc++[u]) ċh Ľu (λw m=>by
   ext aP
   .exact h w m
   .ext cm;exact(h2.su.len u mu,h2.bd u mu))
  rw[Ŋ]at e2;exact(M3,ĵ3,by rw[l2,Ď,Ăw,ă];ext c,a2)
open e
open e _I
namespace _M
open _A _D _I
open PySem.Spec hiding Tm
open PyProof.Rows hiding St kindOf
open _L (gY gE iN)
section
variable[62]
def aa0[12][58][87][209]:
  ∃(q R:Nat)(row:ú)(rows:dQ)(s':ai),vG [qL S, ûO, qn, qn, qn, qn, qn, qn, qn] s=pV [qL S, ûO, qL q, qL R, qn, qn, qn, qn, qn] s'/\İW/\Ĵ:=by
 ext b;let⟨row,q,s1,e1,q1,x1,S1,b1,l1,_⟩:=Ea (d:=d) (c:=0) (a:=2) ø ġC ġE m1 hm p2 p3 hl hS;have h1:=ûp hS;let⟨o38,c38,_⟩:=gY (k:=38) h1 ø ø hl;ext eV
 rw[<-cO]at c38;ext a;ext cH
 ext b;have q4m:=gL (m:=4) ø o38;obtain⟨L,hL⟩:∃L:Nat,(L:Int)=o38.fmod 4:=((o38.fmod 4).toNat,ø)
 let⟨ro,s3,e3,l3,x3,r3⟩:=Gy (d:=d) (p:=p) (aj:=aj) m1 hm p2 p3 hl L 0 s2 [] none (ĄO h1) ø ď8;let⟨s4,qG⟩:=NE (s3++[ą (ğy)])
 ext a;ext na
 have R4:ar s4 øN=some (ğy):=by rw[qG];exact br s3 _
 ext b;let⟨rows,s5,e5,l5,x5,r5⟩:=z9 (us:=ğy) ro s4 [] none R4 (λr m=>(x4.2 _ _ (r3 r m).1,(r3 r m).2)) ď8;let⟨s6,v_⟩:=NE (s5++[ą úk])
 ext a;ext eD
 have x46:=ĢW (ĢX x6);have x16:=üp (ĉN x46);have RK:=úB x16;have h6:=RK.items hS;have lr:Ŭ<=3:=by rw[ĳ]at l5 l3;ext c
 have I6:MZ p aj q ÿc row rows s6:=(x16.2 _ _ q1,ĺz,λr m=>x6.2 _ _ (r5 r m).1,S1,b1,l1,λr m=>(r5 r m).2,ø)
 have md:cw (.int o38) (āP) s2=.ok (.int (L:Int)) s2:=by rw[ÿI,hL]
 have lL:(dh 0 L).length<=1000000:=Čr
 rw[Ĺ,<-cR]at e3;rw[Ĺ]at e5;rw[ĳ]at l3;unfold vG B! B_ B9;by_cases hmm:aj=1
 .refine(q,ÿc,row,rows,s6,?_,I6,RK);have gt:ŀD=.ok új s6:=by rw[_D.rO,ùo]
  subst cO qG v_
  ac_rfl
 .ext b;let⟨o40,c40,_⟩:=gY (k:=40) h6 ø ø hl;let⟨s7,wI⟩:=NE (s6++üg)
  rw[<-wI]at c40;ext a;ext eE
  have gt:ŀD=.ok øz s6:=by rw[_D.rO,ü']
  have eq:jc (.int (o40.fmod 3)) þa s7=.ok (.bl ķQ) s7:=_D.rQ;cases z:ķQ with
  |false=>
   ext dW;refine(q,ÿc,row,rows,s7,?_,I6.to x7.n,RK.trans x7);subst cO qG v_ wI
   ac_rfl
  |true=>
   ext b;ext dW;have h7:=x7.items h6;let⟨Fc,rf,s8,e8,F8,r8,l8,x8⟩:=QH (d:=d) (aj:=aj) (p:=p) (top:=ÿz) (t:=ā6) (c:=0) (s:=s7) ø p2 p3 hl h7;have x68:=ņH;let⟨s9,hs9⟩:=NE (s8++[ą (Ĳq)])
   ext a;have x9:Xt s8 s9:=ĸp
   ext b;let⟨hg,eh,lh,ah⟩:=Gz (d:=d) (s:=s9) (R:=Fc) (us:=rf.map ĂW) (top:=ÿz) (t:=ā6) (c:=0) m1 (a! (x9.2 _ _ F8)) rf [] none (λr m=>(x9.2 _ _ Ēm.1,Ēm.2)) (đn);let⟨yf,B?⟩:=NE (s9++[ą (hg.map tM)])
   ext a;ext mZ
   ext b;let⟨P,hP⟩:=NE (row.take 2++hg)
   let⟨D5,z_⟩:=NE (yf++[ą (Ĳq++hg.map tM)])
   ext a;ext jO
   have mP:∀u∈P,Ģ7:=λu mu=>by
    rw[hP]at mu;ext fx
    .have:=ĘJ mu;exact(S1.len u this,b1 u this)
    .exact ah u mu
   have lP:ĀW<=6:=by rw[hP,Ď,þv,lh,ĳ];ext c
   ext b;let⟨aaT,q',s12,e12,q12,IP,_,_,S12,m12,l12⟩:=pQ (s:=D5) p2 m1 İL ø (by rw[z_,hP,Ŋ];ext B);have aa1:=x9.trans (İX);ext a;refine(q',Fc,aaT,rf,s12,?_,(q12,aa1.2 _ _ F8,λr m=>aa1.2 _ _ Ēm.1,S12,üa,ø,λr m=>Ēm.2,ø),RK.trans (x68.trans aa1))
   .have sl:=y? (l:=none) (h:=some 2) (a! ((x16.trans x68).2 _ _ q1));rw[show(2:Int)=(ġn:Int)from rfl,vj,<-ěW]at sl;rw[hP,Ď]at lP;subst cO qG v_ wI hs9 B? z_
    ac_rfl
   .ext b;let⟨w,mw,ew⟩:=m12 u mu;ext a;ext nq
open e
open e _M
namespace _I
open PySem.Spec _A _D
open PyProof.Rows hiding St kindOf
open _L (gY gE iN)
abbrev rL[52]:ý:=Ăi
theorem z!{R:Nat}[6]:∀[52](s:ai)(acc:ý)[54],Ā4->(ďh) ->
  ∃(rowsP:dQ)(s':ai),aY þs ĩ aU ć6 (rL rows) [x] s acc=.ok (acc++đD) s'/\ėr/\Ĵ/\(∀r∈rowsP,ăI/\ē<=r.1)/\ęt
 |[],s,acc,x,hR,_=>([],s,(ji hR).trans (by rw[show acc++rL []=acc from ń _]),rfl,úP,ď8,.nil)
 |ýW,s,acc,x,hR,h=>by
  ext b;have h0:=ģR;let⟨s1,b_⟩:=NE (s++[ą (ć8)])
  ext a;ext W
  ext cE
  ext b;let⟨ds,s2,e2,m2,x2,a2,p2⟩:=z! rows s1 (acc++[ăq]) ċh ĉt (λq m=>x1.2 _ _ ĞG);ext a;refine(%[ē|r.2]::ds,s2,?_,by rw[Ą,Ą,m2],úS,λq m=>?_,ė_ (λq m=>by have:=ğY.2;show ē<q.1;ext c,p2))
  .ext iV
  .ext ax
   .exact(Ĝ2,ł)
   .exact(ğY.1,by have:=ğY.2;ext c)
theorem eqR{s:ai}:∀{as bs:dQ},ĲM->(ŀ3)->(ŀ4)->ĭL=Ğ
 |[],[],_,_,_=>rfl
 |[],_::_,h,_,_=>úa
 |_::_,[],h,_,_=>úa
 |a::as,b::bs,h,h1,h2=>by
  have ih:=eqR (þE h).2 (λr m=>h1 r ŕ) λr m=>h2 r ŕ;have e:a.2=b.2:=(þE h).1;show(match ĭf,ĭL with|Ō,ġ=>ĈJ|_,_=>none)=_;rw[ih];have e1:ĭf=Ğ:=by ext bH;simp only[vw,a! (h1 a ċ),a! (h2 b ċ),e];exact iy s 13 _ (pR 10 _)
  rw[e1];rfl
def aa2{as bs:dQ}{a b:Nat}(h:ĲM)(ha:ā8=some (.lst (rL as)))(hb:s[b]?=some (.lst (rL bs)))(h1:ŀ3)(h2:ŀ4):Ķe:=by ext kl;exact eqR h h1 h2
abbrev haE:ME:=(Ĥ5)
structure Hnd[240](rows rowsP:dQ)(L0 D H:Nat)(s:ai):Prop where
 h_:Ī'
 d_:s[D]?=ĸN
 q_:s[L0]?=þg
 r_:∀r∈rowsP,ùW
def Hnd.to{D H:Nat}[439](x:úd):Hnd row rows rowsP L0 D H s':=(ā' _ _ trivial h.h_,ā' _ _ trivial h.d_,ı1,ĪW)
def GA(I:ĆV)[85](v2:∀s,bB Z s=.ok ąG s)(v3:∀s,bX Z s=.ok ċj s):
  ∃(rowsP:dQ)(D H:Nat)(s':ai),haE Z s=.ok Ēg s'/\Ĵ/\Hnd row rows rowsP ē D H s'/\ėr/\(∀r∈rowsP,ē<r.1/\r.1<D)/\ē<D/\D<H/\H<Ċf/\ęt:=by
 ext b;let⟨s1,b_⟩:=NE (s++[ą (ĔU)])
 ext a;ext W
 ext cE
 ext b;ext fY;let⟨rowsP,s2,e2,m2,x2,a2,p2⟩:=z! rows s1 [] none (a! I1.R_) I1.r_;let⟨s3,jT⟩:=NE (s2++[ą (đD)])
 let⟨s4,qG⟩:=NE (s3++[ą [ăq,.loc üc]])
 ext a;ext eC
 ext na
 have l3:øN=üc+1:=by rw[jT,Ď];rfl
 have l4:ýG=øN+1:=by rw[qG,Ď];rfl
 have x34:=ĉN x4;refine(rowsP,üc,øN,s4,?_,úB ńZ,(ĺx,x4.2 _ _ (Ěi),ńZ.2 _ _ ČL,λr m=>x34.2 _ _ ğZ.1),m2,λr m=>(by have:=ğZ.2;ext c,bu ğZ.1),by ext dS;ext c,ø,ø,p2);have a1:=v2 s;have a3:=v3 s1;have a4:=I.q_;have a5:=I1.R_;ext gC;subst b_ jT qG
 ac_rfl
structure wJ[34][179][46][240][52](L S T:Nat)(W:dQ)[374](s:ai):Prop where
 s_:đ9
 w_:ńc
 t_:Ġ'
 gd:ĆI
 ls:L<=S
 st:S<T
 ws:∀x∈W,S<x.1/\x.1<T
 wd:ěo
def M4{D H:Nat}(I:ĆV)[49](p3:p<=97)[12][58][439](em:ėr):
  ∃(S T:Nat)(s':ai)(W:dQ)(rest:ú),ûI [øx,ùY,.loc L0,ĊA] s=Ĝv/\úd/\wJ p d aj row rows ē S T W rest s':=by
 ext b;ext dk;ext a;have hl:Ĉx=Ŭ:=ħD
 ext b;have rp:∀r∈rowsP,ýl:=λr mr=>by
  have:r.2∈ē5:=by rw[<-em];exact ĂY mr
  ext kf;exact ŅH
 ext gC;have le:=I.le;let⟨S,T,s',W,rest,mo,Rl,qf,v,e,G⟩:=r! hp ķ8 h.d_ (λr mr=>(h.r_ r mr,Ed m1 hm (rp r mr))) h.q_ (MY m1 hm I.sr I.bd) ø ø m1 ø;have G':wH aj (Đh) 20 p d row rows s s' S T W rest mo Rl qf v:=(G.x,G.told,G.F5,G.rp,G.rf,G.gi,G.hv,B5 G.md em,G.mf,G.wl,G.wq,G.lS,G.lT,G.wd,G.wt_,G.st_)
 have gd:=G'.gd ø m1 ø (D_ hm) (λr mr=>(ĳE,(I.Iy r mr).le)) ø I.sr (Gx I.sr I.bd);ext a;exact(S,T,s',W,rest,e,G.x,G.told.1,λx mx=>ķE.2,G.F5,gd,G.lS,G.st_,λx mx=>(ķE.1,G.wt_ x mx),G.wd)
def wJ.gds[418](I:ĆV):Ćs:=((F.s_,F.w_,I.R_,I.r_),F.t_,I.q_)
def wJ.to[418](x:∀n us,L<=n->ùF=ŀA->Ċ4=ŀA):wJ p d aj row rows L S T W rest s':=(x _ _ F.ls F.s_,λy m=>x _ _ (by have:=F.ws y m;have:=F.ls;ext c) (F.w_ y m),x _ _ (by have:=F.ls;have:=F.st;ext c) F.t_,F.gd,F.ls,F.st,F.ws,F.wd)
abbrev moB:MB:=(Ĭ8)
section
variable{H D:Nat}{x3 x6 x8:ć}
theorem GB(hd:∀r∈rowsP,r.1<D)(hh:D<H)(pw:ęt)(le:∀r∈rowsP,đa<=1000)(hu:∀[5](r:ùB),ŀv->ĔN=Ėh):∀[165][41],j+m=Ĉx->Ī'->s[D]?=ũ->(∀[5](r:ùB),j<=i->ŀv->ùW) ->
  ∃(s':ai)(y':ć),forL øf (az 7) moB ûN [x0, x1, x2, x3, x4, qL H, x6, y, x8] s=.nx [x0, x1, x2, x3, x4, qL H, x6, y', x8] s'/\Ċf=ē/\∀n k,(∀r∈rowsP,n≠r.1)->čf
 |0,j,s,y,_,_,_,_=>(s,y,þ9,rfl,Ń_)
 |m+1,j,s,y,h,hH,hD,hr=>by
  ext b;obtain⟨r,er⟩:∃r,rowsP[j]?=ýz:=(_,Ą4)
  have mr:=øC er;have h0:=hr j r ě er;have dr:=hd r mr;let⟨s1,b_⟩:=NE (ź r.1 (.lst (ć8++üO)))
  ext a;have k1:∀{n k},n≠r.1->ĺU:=λ{n k}ne e=>by rw[b_];exact aV e ĝ'
  ext b;let⟨s2,y2,e2,l2,k2⟩:=GB hd hh pw le hu m Ķ s1 ûJ ø (k1 ø hH) (k1 ø hD) (λi q hi eq=>by
   refine k1 ?_ (hr i q ø eq);let⟨l1,g1⟩:=ùj er;let⟨l2,g2⟩:=ùj eq;have:=Ćx pw j i l1 l2 ø;rw[g1,g2]at this;ext c)
  ext a;refine(s2,y2,?_,by rw[l2,b_,Ŕ],λn k hn e=>k2 n k hn (k1 (hn r mr) e));have u1:=hu j r er;have lw:=le r mr;ext aN;exact dD (pc:=[x0,x1,x2,x3,x4,some Ēg,x6,ĕo,x8]) trivial ŀ rfl e2
open e
open e _I
namespace _D
open PySem.Spec _A
open PyProof.Rows hiding St kindOf
def cI{P:Vf}{sc:Scope}(a:autoParam (ņA) Č)(b:autoParam (ĳ4) Č)(c:autoParam (ĳ5) Č)(d:autoParam (ēC) ĝ5)(e:autoParam (łN) Č)(f:autoParam (ńb) ĝ5)(g:autoParam (Įt) ĝ5):dw N P sc:=(a,b,c,d,e,f,g)
def gZ[73](sk:autoParam (ĝ7) Č)[438](has:autoParam (ĥh) Č)[381]:þr:=ab4 sk A has iH kind names len hN
def vH{cl cl':ü3}{caps':þ}(sk:autoParam (Ń3) Č)[438](B:autoParam (ĳ1) ņN)(has:autoParam (ĥf) Č)[381]:Ĳ5:=ab8 sk A B has iH kind names len hN
section
variable{K:Va}
def MgK[68]:Prop:=(∀x f,Ĥq->mg x=ĉK)
theorem e![4]:∀{l:Vf},Pz mg l->x∈l->đ2
 |y::l,h,hx=>by
  ext mP
  .rw[e];exact h.1
  .exact e! h.2 e
theorem aa3[4]:∀{l:Vf},PB K mg l->x∈l->Ku K mg x
 |y::l,h,hx=>by
  ext mP
  .rw[e];exact h.1
  .exact aa3 h.2 e
def FnAt.jE[4][93](N ps:Vf)(F:df K x st)(hm:MgK K mg)
  (h:∀ (f:Vi) [189] (A:Vj) [226] (s:Vh) (H:Hp) (E:XK),ēC->Ī6 ->
   ĵl)
  (hb:∀ (kV doc pm:Vg) (an:úM) (d5 ct:Vg) [61],ĩ1:=by
   intro _ _ _ _ _ _;first|exact ab9 ù'|exact wj ú5|exact ĻS|exact len0 rfl)(S:ăT:=by exact cI):ĭx:=by
 let⟨f,fd,F,a⟩:=F;exact FnAt.mk F (hm _ _ a) S hb λd5 A outer s H E=>h f d5 A outer s H E S.nd
open e
open e _D
namespace _M
open _A _D _I
open PySem.Spec hiding Tm
open PyProof.Rows hiding St kindOf
open _L (gY gE iN yc)
section
variable[62]
def QL(I:ĆV)[49][87][12][58][209]:
  ∃s',(ħU).fin=ĐZ:=by
 ext b;let⟨rowsP,D,H,s1,e1,x1,H1,em,_,_,_,_,_⟩:=GA I (Z:=[some (ý5),ûO,þF,ă',x4,y5,y6,y7,none]) (ù') (ù');ext fY;let⟨Sc,T,s2,W,rest,e2,x2,F2⟩:=M4 (d:=d) I1 hp p3 m1 hm H1 em;have I2:=I1.to x2;have H2:=H1.to x2;let⟨s3,e3,x3⟩:=Gk (top:=ÿz) (t:=ā6) (c:=0) F2.gd p2 ø m1 ø (F2.gds I2);have F3:wJ p d aj row rows úw Sc T W rest s3:=F2.to λn us _ e=>x3.2 _ _ e;ext nM;ext a
 -- kept
 ext b;let⟨K,s4,e4,m4,x4',a4,_⟩:=z! (us:=rL W) W s3 [] none (a! F3.s_) F3.w_;rw[Ž]at e4;let⟨s5,ni⟩:=NE (s4++[ą (rL K)])
 let⟨s6,v_⟩:=NE (s5++[ą Ĕ1])
 let⟨s7,wI⟩:=NE (s6++[ą ĴX])
 ext a;ext nb
 ext eD
 ext eE
 ext b;have x35:=x4'.trans x5;have x57:=ēb x7;have x37:=x35.trans x57;have I7:=I3.to x37.n;have h7:ar s7 S=ĀM:=x37.items (x3.items (ĄO Ġh));let⟨ae9,q9,s8,e8,q8,x8,S8,b8,l8,_⟩:=Ea (d:=d) (c:=0) (a:=11) ø ġC ġE m1 hm p2 p3 hl h7;have I8:=I7.to x8.n;ext gC;let⟨S9,T9,s9,W9,aeZ,mo9,Rl9,qf9,v9,e9,G9⟩:=r! (d:=d) (aj:=aj) (wt:=Đh) (Wm:=20) hp ķ8 I8.R_ (λr mr=>(I8.r_ r mr,ĳE)) q8 (MY m1 hm S8 b8) ø ø m1 ø;have x79:Xn s7 s9:=x8.n.trans G9.x;have F9:wJ p d aj row rows úw Sc T W rest s9:=F3.to λn us _ e=>ĉ' _ _ trivial (x37.2 _ _ e);have K9:s9[đ7]?=some (.lst ĴX):=ĉ' _ _ trivial ĳn;have k4:s9[ýG]?=some (.lst (rL K)):=ĉ' _ _ trivial (x57.2 _ _ ĳm);have k5:s9[ÿc]?=ĕ0:=ĉ' _ _ trivial (x7.2 _ _ (ĺz));have kk:∀r∈K,s9[r.1]?=Ća:=λr m=>ĉ' _ _ trivial ((ĢX x57).2 _ _ (a4 r m).1);have n1:=D? (pS H2.q_ I2.q_);have n2:=D? (aa2 em H2.d_ I2.R_ H2.r_ I2.r_);have n3:=aaU (aa2 m4.symm F9.s_ k4 F9.w_ kk);have n4:=aaU (pS F9.t_ k5);have h1:=H1.h_;have h2:=H2.h_;have w3:s3[Sc]?=some (.lst (rL W)):=F3.s_;have t3:=F3.t_;have lw:=F2.gd.F.ln;subst ni v_ wI;have:ħU=.rt øz s9:=by
  unfold jP ym yk yj yi yh
  ac_rfl
 ext a;exact(s9,ŀa)
open e
def M5(c:aH)[53](hl:Ĥd)(hi:ĜM):∃ay,MQ Ģe [c]=.ok øz ay:=by
 let⟨s,hs⟩:=NE ([c]:ai)
 rw[<-hs]at hi⊢;ext b;let⟨p,d,aj,top,t,cn,sA,eA,xA,hp,p2,p3,m1,m3,t8,t9⟩:=yc hi ø;let⟨sB,eB,xB⟩:=QF (s:=sA) (p:=p) (d:=d) (aj:=aj) (top:=top) (t:=t) (c:=cn) m1 m3;have hB:=(xA.trans xB).items hi;let⟨q,R,row,rows,s0,e0,I,x0⟩:=aa0 (d:=d) m1 m3 p2 p3 ø hB;have h0:=x0.items hB;let⟨Nk,c39,_⟩:=gY (k:=39) h0 ø ø ø;let⟨s1,b_⟩:=NE (s0++üg)
 rw[<-b_]at c39;ext a;have x1:Xt s0 s1:=ĺt
 ext b;ext fY;have lr:=I.ll;let⟨sR,eR,xR⟩:=Ec (d:=d) (aj:=aj) (top:=ÿz) (t:=ā6) (c:=0) (q0:=q) (s:=s1) (R:=R) (m:=Nk.fdiv 6) (kq:=ďU ď) hp (by rw[a! I1.R_];ext aW;ext aT) (λn m=>by
  ext mn;exact(_,I1.r_ r mr)) (by ext w;exact lr)
 let⟨ν,hν⟩:=NE (ĕ4:ùA)
 ext a
 -- adn
 ext b;obtain⟨s2,e6,x2⟩:∃s2,pU ν s1=pT ν s2/\ĒZ:=by
  have eq:jc (.int (Nk.fmod 6)) þa s1=.ok (.bl Ĺh) s1:=_D.rQ;rw[hν];unfold pU;cases z:Ĺh with
  |false=>ext dW;exact(s1,ùO,úP)
  |true=>ext dW;exact(sR,ùO,xR)
 have I2:=I1.to x2.n;have h2:=ĄO (ûp h0);ext a;let⟨rowsP,D,H,s3,e3,x3,H3,em,rP,lD,lH,lH3,pP⟩:=GA I2 (Z:=ν) İK İK;ext b;ext nM;let⟨L,hL⟩:=NE üc
 rw[<-hL]at H3 rP lD;let⟨Sc,T,s4,W,rest,e4,x4,F4⟩:=M4 (d:=d) I3 hp p3 m1 m3 H3 em;have I4:=I3.to x4;have H4:=H3.to x4;ext a;have lm:Ĉx=Ŭ:=ħD
 -- II first is changed
 let⟨s5,ni⟩:=NE (s4.set L (.lst (ĔU++üO)))
 have k5:∀{n k},n≠L->ğA->s5[n]?=ō:=λ{n k}ne e=>by rw[ni];exact aV e ĝ'
 have l5:ÿc=ýG:=by rw[ni,Ŕ]
 let⟨s6,v_⟩:=NE (s5++üg)
 ext eD
 ext b;let⟨us,hus⟩:=NE (đD++[.loc ÿc])
 let⟨s7,wI⟩:=NE (s6.set D (ÿa))
 have D6:s6[D]?=ĸN:=x6.2 _ _ (k5 ø H4.d_);ext a;have k7:∀{n k},n≠L->n≠D->ğA->s7[n]?=ō:=λ{n k}a b e=>by rw[wI];exact aV (x6.2 _ _ (k5 a e)) λz=>b øP
 have l7:ýG<=ĉi:=by rw[wI,Ŕ];have:=x6.1;ext c
 have D7:s7[D]?=ũ:=by rw[wI];exact ő (bu D6)
 ext b;have HH:H≠L/\H≠D:=ĞP
 let⟨s8,y8,e8,l8,k8⟩:=GB (H:=H) (D:=D) (L0:=L) (us:=us) (rowsP:=rowsP) (x0:=some (.loc 0)) (x1:=ûO) (x2:=þF) (x3:=ă') (x4:=ľb) (x6:=Ė9) (x8:=none) (λr m=>(rP r m).2) lH pP (λr m=>by
  have:r.2∈ē5:=by rw[<-em];exact ĂY m
  ext kf;have:=(ŅH).le;ext c) (λi r e=>by
  rw[hus,øW (by ext w;exact ĞW),ĭ,e];rfl) Ĉx 0 s7 none ø (k7 HH.1 HH.2 H4.h_) D7 (λi r _ e=>by
  have:=rP r ēq;exact k7 ø ø (H4.r_ r ēq))
 ext a;have QM:∀{n k},n<L\/øN<=n->ğA->s8[n]?=ō:=λ{n k}a e=>k8 n k (λr m=>by have:=rP r m;ext c) (k7 ø ø e);have lq:=bu I2.q_;have lR:=bu I2.R_;have I8:MZ p aj q R row rows s8:=(QM ĝb I4.q_,QM ĝb I4.R_,λr m=>QM (.inl ĪZ) (I4.r_ r m),I.sr,I.bd,I.le,I.Iy,I.ll)
 have F8:wJ p d aj row rows øN Sc T W rest s8:=F4.to λn us a e=>QM (.inr a) e;let⟨s9,e9,x9⟩:=Gk (top:=ÿz) (t:=ā6) (c:=0) F8.gd p2 ø m1 ø (F8.gds I8);have F9:wJ p d aj row rows øN Sc T W rest s9:=F8.to λn us _ e=>x9.2 _ _ e;have I9:=I8.to x9.n
 -- apart
 ext b;let⟨yf,B?⟩:=NE (s9++[ą [ąi]])
 let⟨cs,NL⟩:=NE (W.map ď++[T]:þ)
 ext a;have ecs:wV W++[ąi]=cs.map ž:=by rw[NL,Ŋ,ğ];rfl
 ext b;let⟨D5,z_⟩:=NE (yf++[ą ćm])
 let⟨s12,aa4⟩:=NE (D5++[ą [.loc yf.length]])
 ext a;ext mZ
 ext jO
 have IP:Xt D5 s12:=by rw[aa4];ext O
 have l11:D5.length=yf.length+1:=by rw[z_,Ď];rfl
 have ado:=İX;have lW:Ř<=4:=by have:=F9.gd.F.ln;ext c
 let⟨cc,hcc⟩:=NE (λi=>if i<Ř then(((W[i]?).map λw=>ğE).getD [])else if i=Ř then č7 else[]:ýA)
 have cW:∀[64]{w:ùB},ăH->cc i=ğE:=λ{i w}e=>by ext jN;rw[if_pos ĞW,e];rfl
 have cT':cc Ř=č7:=by rw[hcc];show(if Ř<Ř then _ else _)=_;rw[if_neg úX,Ī]
 have cN:∀[64],Ř<i->cc i=[]:=λ{i}h=>by ext jN;rw[Ŗ,Ŗ]
 have ci:∀i,cc i=[]\/cc i=č7\/∃w∈W,cc i=ğE:=λi=>by
  rcases ęH i Ř with z|z|z
  .exact .inr (.inr (_,Ăv z,cW (ħ z)))
  .exact .inr (.inl (by rw[z];exact cT'))
  .exact .inl (cN z)
 have lcs:üs=Ř+1:=by rw[NL,Ď,č];rfl
 have mcs:∀n∈cs,øN<=n/\n<=T/\n≠Sc:=λn m=>by
  ext nd;rw[NL]at m;ext aP
  .let⟨w,mw,rfl⟩:=Ĕ m;have:=F9.ws w mw;show øN<=w.1/\w.1<=T/\w.1≠Sc;ext c
  .ext cm;ext c
 have lT9:=bu F9.t_;let⟨c',s13,e13,a13,b13,l13,k13⟩:=MM (L:=yf.length) (ρ:=D5.length) (cs:=cs) (c:=cc) (s:=s12) (by rw[aa4];ext B) (IP.2 _ _ (by rw[z_];ext B)) (λi n e=>by
  rw[Ť];refine ado.2 _ _ ?_;rw[NL]at e;by_cases z:i<Ř
  .rw[øW (by ext w;ext o),ĭ,ħ z]at e;ext g;rw[cW (ħ z)];exact F9.w_ _ (Ăv z)
  .rw[úl ĘB,č]at e;have z2:i=Ř:=by have:=ĞW;have:[T].length=1:=rfl;ext c
   rw[z2,úu]at e;ext g;rw[z2,cT'];exact F9.t_) (λi=>by
  rcases ci i with z|z|⟨w,_,z⟩<;>rw[z]
  .rfl
  .exact pR 9 _
  .exact pR 9 _) (λi=>by
  rcases ci i with z|z|⟨w,mw,z⟩<;>rw[z]
  .ext as
  .ext w;have:=F9.gd.lr;ext c
  .ext w;have:=(F9.gd.F.wl w mw).1;ext c) ø (by
  rw[NL];refine ĂH (ĂP F9.wd,ĂA,λa ma b mb=>?_);ext b;let⟨w,mw,rfl⟩:=Ĕ ma;ext a;rw[ţ mb];exact(F9.ws w mw).2) (λn m=>by have:=mcs n m;have:=Ni.1;ext c) ø
 have adp:∀{n k},ĢE->s9[n]?=ō->s13[n]?=ō:=λ{n k}h e=>k13 n k h (ado.2 _ _ e);have eT:cs[Ř]?=some T:=by rw[NL,úl ĘB,č,úu];rfl
 have T13:s13[T]?=some (.lst (c' Ř)):=by have:=a13 _ _ eT;rw[Ť]at this;ext n
 have S13:s13[Sc]?=Ėc:=adp (λm=>(mcs _ m).2.2 rfl) F9.s_;let⟨s14,aa5⟩:=NE (s13.set T (.lst (c' Ř++üO)))
 have S14:s14[Sc]?=Ėc:=by rw[aa5];exact aV S13 (by have:=F9.st;ext c)
 let⟨s15,adq⟩:=NE (s14.set Sc (.lst (wV W++üO)))
 have QN:∀{n k},n<L->s9[n]?=ō->s15[n]?=ō:=λ{n k}a e=>by ext nd;ext dT;have h1:=adp (λm=>by have:=mcs _ m;ext c) e;rw[adq];refine aV ?_ ø;rw[aa5];exact aV h1 ø
 have I15:MZ p aj q R row rows s15:=(QN ø I9.q_,QN ø I9.R_,λr m=>QN ĪZ (I9.r_ r m),I.sr,I.bd,I.le,I.Iy,I.ll)
 have h15:ar s15 0=ĀM:=by let⟨cl,g1,g2,g3⟩:=pH h2;have:=bu g1;exact g3 s15 (QN ø (x9.2 _ _ (QM ĝb (x4.at_ _ _ g2 (x3.2 _ _ g1)))))
 let⟨s',e'⟩:=QL (d:=d) (x4:=ľb) (y5:=some Ēg) (y6:=Ė9) (y7:=y8) (S:=0) I15 hp p2 p3 m1 m3 ø h15;have n1:=D? (pS H4.q_ I4.q_);have n2:=D? (aa2 em H4.d_ I4.R_ H4.r_ I4.r_);have a1:=H3.h_;have⟨a2,a3,a4,_⟩:=H4;have a5:=k5 HH.1 a2;have a6:=k5 (show D≠L by ext c) a3;have a7:=F9.s_;have a8:=b13 Ř;have a9:=I.le;have ln:c7 ċy s7=.ok (.int (Ĉx:Int)) s7:=by rw[je (a! (k7 ø ø I4.R_)),č,lm]
 have lv:ĻC<=4:=by ext cp;ext w;exact lW
 rw[<-cR]at e8;rw[hν]at e3 e6;rw[<-ecs]at z_;have g7:pT ĕ4 s2=jP [qL 0, ûO, qL q, qL R, qI Nk, qL H, Ė9, y8, qn] s15:=by
  subst hL hus ni v_ wI B? z_ aa4 aa5 adq;unfold pT B8 B7 yt yr yq yp yo yn
  ac_rfl
 have g5:pV [qL 0, ûO, qL q, qL R, qn, qn, qn, qn, qn] s0=pU ĕ4 s1:=by
  ext aN;unfold pV
  ac_rfl
 have g1:=((e0.trans g5).trans e6).trans g7;refine(s',?_);unfold MQ;exact Qk rfl rfl (RD (r':=.nx [qL 0, ûO, qn, qn, qn, qn, qn, qn, qn] sB) ŀ g1) e'
open PySem.Spec _A _D
open PyProof.Rows hiding St
def top[5]:Stmt:=(PySem.Challenge.pw_polyring_k34_reduced_shown.main.body.getD i Ĵg)
def kK[239]:Stmt:=(match top i with
 |.ClassDef _ _ _ b _ _ _ _ _ _ _=>b.getD j Ĵg
 |s=>s)
structure Txt[120]:Prop where
 gl:MgK K mg
 b:Pz mg ĤY
 c:PB K mg ĥ2
 z?:Glob K mg "SPARE_BITS" đq
 B':Glob K mg "MOST_RING" Łc
 vI:Glob K mg "FIRST_PRIMES" _E.fN
 M6:Glob K mg "ORDERS" _E.Ll
 cl:U_ K mg ĥE
 sub:ĝQ
 qx:wm K mg _M.kn
def QO{m:ME}[4][126][181][310][305][119]:ĮM:=TX i hN he hi hx hs hf
section
variable{P:Vk}[36][124](T:Txt P w K mg base)
def g8:dw īr īr (aI ńF):=cI
def jj:dw ["self","exponents","key","exponent"] ["self","exponents"] (aI ńG):=cI
def fG:dw ["self","key","field"] ["self","key"] (aI ńH):=cI
def g9:dw ĽN ĽN (aI ńI):=cI
def fH:dw ĺk ĺk (aI ńJ):=cI
def jk:dw İc İc (aI ńK):=cI
def Aa:dw ["_law_script","_law_shape_here","_law_row","_law_by","_law_more","_law_handed","_law_found","_law_k","_law_kept"] Ď7 (aI ĉq):=cI
seal _A.PE _A.PT _A.PA _A.PS _A.kM _A.PG _A.CC _A.PI _A.C2 _A.Ng _A.G7 _A.PH
set_option hygiene false
set_option bootstrap.genMatcherCode true
local macro_rules|`(nofun)=>`(by first|rfl|assumption|exact e! T.b (by decide +kernel)|exact uG|exact Km|exact aa3 T.c (by decide +kernel)|exact T.cl.1.nof (by decide +kernel)|exact T.cl.2.1.nof (by decide +kernel)|lia)
local macro_rules|`(tactic|fail)=>y_k 108
local macro_rules|`(tactic|fail)=>y_k 96
local macro_rules|`(tactic|fail)=>y_k 84
local macro_rules|`(tactic|fail)=>y_k 72
local macro_rules|`(tactic|fail)=>y_k 60
local macro_rules|`(tactic|fail)=>y_k 48
local macro_rules|`(tactic|fail)=>y_k 36
local macro_rules|`(tactic|fail)=>y_k 24
local macro_rules|`(tactic|fail)=>y_k 12
local macro_rules|`(tactic|fail)=>y_k 0
local macro_rules|`(tactic|trivial)=>`(tactic|repeat' first|fail|fail_if_success skip)
set_option bootstrap.genMatcherCode false
include T
def nv(M:Ħ'):Ī_:=
 pj.mk M ĊF g8 üY λf d5 A outer s H E hr=>by
 have:=g8.nd;have:(ĺj:Vf).Nodup:=Ĳ
 ext i
 .refine cX (N:=ĺj) (k:=1) rfl rfl ęA ?_ ?_ ?_ ?_<;>intros<;>trivial
variable(ow:Ī_)
def pW(M:ħB):ħ3:=
 đK M ĊF jj Č6 λf d5 A outer s H E hr=>by
 have:=jj.nd;ext i
variable(qJ:ħ3)
def jQ(M:Ħg):ħj:=
 đK M ĊF fG Č6 λf d5 A outer s H E hr=>by
 have:=fG.nd;have:(Ĭy:Vf).Nodup:=Ĳ
 ext i
 .refine cX (N:=Ĭy) (k:=1) rfl rfl (vH (cl:=[Ĺc,ŀ9,ćk]) (cl':=[ćk,ŀ9,Ĺc]) (caps':=[0,1,2])) ?_ ?_ ?_ ?_<;>intros<;>trivial
variable(kB:ħj)
def Ca(F:İk):ĩ':=
 Ě Ąp Ąp F T.gl (λ_ _ _ _ s _ _ nd hr=>by
 ext i)
variable(Ee:ĩ')
def oy(F:Ĭj):Ĩs:=
 Ě ă7 ă7 F T.gl (λ_ _ _ _ s _ _ nd hr=>by
 have:(Ķ_:Vf).Nodup:=Ĳ
 ext i
 .refine cX (N:=Ķ_) (k:=1) rfl rfl (gZ (cl:=[%["number"|ø_]])) ?_ ?_ ?_ ?_<;>intros<;>trivial)
variable(pX:Ĩs)
def vJ(F:Įh):ĩe:=
 Ě ă7 ă7 F T.gl (λ_ _ _ _ s _ _ nd hr=>by
 ext i)
variable(wK:ĩe)
def qK(F:ĭe):ĨR:=
 Ě ă7 ă7 F T.gl (λ_ _ _ _ s _ _ nd hr=>by
 ext i)
variable(sP:ĨR)
def Cb(F:İj):ĩ_:=
 Ě Ąp Ąp F T.gl (λ_ _ _ _ s _ _ nd hr=>by
 ext i)
variable(Ef:ĩ_)
def l!(F:īv):ħ9:=
 Ě ["rows","row"] ["rows"] F T.gl (λ_ _ _ _ s _ _ nd hr=>by
 ext i)
variable(ny:ħ9)
def l?(F:īw):ħ_:=
 Ě ĮN ĮN F T.gl (λ_ _ _ _ s _ _ nd hr=>by
 have:(īq:Vf).Nodup:=Ĳ
 ext i
 .refine cX (N:=īq) (k:=2) rfl rfl (vH (cl:=[ĺ1,ďp]) (cl':=[ďp,ĺ1]) (caps':=[0,2])) ?_ úy úy úy
  ext eO
  ext V
  ext V
  ext V)
variable(nB:ħ_)
def nC(F:īQ):Ĩf:=
 Ě ["guards","top","monics","guarded","place","monic"] ["guards","top","monics"] F T.gl (λ_ _ _ _ s _ _ nd hr=>by
 ext i)
variable(oA:Ĩf)
def sQ(F:ĭK):Ĩ6:=
 Ě ["prime","terms","pairs","shift","factor","key","number","place","total"] ["prime","terms","pairs","shift","factor"] F T.gl (λ_ _ _ _ s _ _ nd hr=>by
 ext i) Ėo
variable(vK:Ĩ6)
def sS(F:ĭG):Ĩ3:=
 Ě ["_law_script","_law_k","_law_cell","_law_mixed"] ["_law_script","_law_k"] F T.gl (λ_ _ _ _ s _ _ nd hr=>by
 ext i)
variable(fY:Ĩ3)
def wL(F:ĮW):ĩw:=
 Ě ĽL ĽL F T.gl (λ_ _ _ _ s _ _ nd hr=>by
 ext i)
variable(pZ:ĩw)
def vL(F:Įd):ĩa:=
 Ě ["_law_prime","_law_pairs","_law_found","_law_pair","_law_rows","_law_exponents"] ["_law_prime","_law_pairs"] F T.gl (λ_ _ _ _ s _ _ nd hr=>by
 ext i
 .refine ĥG<;>trivial)
variable(e?:ĩa)
def sT(F:ĭI):Ĩ5:=
 Ě ["_law_ones","_law_others","_law_pairs","_law_one","_law_other","_law_exponents"] ["_law_ones","_law_others"] F T.gl (λ_ _ _ _ s _ _ nd hr=>by
 have:(Ī3:Vf).Nodup:=Ĳ
 ext i
 .refine cX (N:=Ī3) (k:=1) rfl rfl (vH (cl:=[ķu,ĵ4]) (cl':=[ĵ4,ķu]) (caps':=[4,3])) ?_ ?_ ?_ ?_<;>intros<;>trivial)
variable(mn:Ĩ5)
def Ab(F:įz):ĩS:=
 Ě ī' ī' F T.gl (λ_ _ _ _ s _ _ nd hr=>by
 ext i)
variable(r?:ĩS)
def sU(F:ĭH):Ĩ4:=
 Ě ["_law_one","_law_other","_law_k"] ["_law_one","_law_other"] F T.gl (λ_ _ _ _ s _ _ nd hr=>by
 ext i)
variable(vM:Ĩ4)
def Ac(F:įA):ĩT:=
 Ě ["_law_cell","_law_shape_here","_law_exponents","_law_unknown"] ["_law_cell","_law_shape_here"] F T.gl (λ_ _ _ _ s _ _ nd hr=>by
 ext i)
variable(Cc:ĩT)
def Ad(F:įC):ĩU:=
 Ě ĴW ĴW F T.gl (λ_ _ _ _ s _ _ nd hr=>by
 ext i)
variable(Ce:ĩU)
def wM(F:ĮS):ĩr:=
 Ě ["_law_lists","_law_held","_law_k","_law_j"] ["_law_lists"] F T.gl (λ_ _ _ _ s _ _ nd hr=>by
 have:(Ļ7:Vf).Nodup:=Ĳ
 have:(ĽM:Vf).Nodup:=Ĳ
 ext i
 .refine ċz 1 (N:=Ļ7) (k:=1) nd rfl rfl ăy ?_ úy úy úy
  ext V
  ext V
  ext V
  .refine cX (N:=ĽM) (k:=1) rfl rfl ăy ?_ ?_ ?_ ?_<;>intros<;>trivial)
variable(Ae:ĩr)
include qJ in
def nD(M:ħa):ħJ:=
 đK M ĊF g9 Č6 λf d5 A outer s H E hr=>by
 have:=g9.nd;have:(Ĭ7:Vf).Nodup:=Ĳ
 ext i
 .refine cX (N:=Ĭ7) (k:=2) rfl rfl ęA ?_ ?_ ?_ ?_<;>intros<;>trivial
variable(oB:ħJ)
include kB in
def jR(M:Ħh):ħk:=
 đK M ĊF fH Č6 λf d5 A outer s H E hr=>by
 have:=fH.nd;have:(İ0:Vf).Nodup:=Ĳ
 ext i
 .refine ĥG
  .refine cX (N:=İ0) (k:=2) rfl rfl ęA ?_ úy úy úy
   ext eO
   ext V
   ext V
   ext V
variable(fZ:ħk)
include Ee pX in
def Eg(F:İ7):Īs:=
 Ě Ąp Ąp F T.gl (λ_ _ _ _ s _ _ nd hr=>by
 ext i)
variable(yu:Īs)
include wK in
def IC(F:ıS):ĩz:=
 Ě ["one","other","upper","lower","often","following"] ["one","other"] F T.gl (λ_ _ _ _ s _ _ nd hr=>by
 have:(ıM:Vf).Nodup:=Ĳ
 ext i
 .refine cX (N:=ıM) (k:=2) rfl rfl (gZ (cl:=[%["often"|ø_]])) ?_ ?_ ?_ ?_<;>intros<;>trivial)
variable(M7:ĩz)
include Ef in
def vN(F:Įe):ĩb:=
 Ě ["order"] ["order"] F T.gl (λ_ _ _ _ s _ _ nd hr=>by
 ext i)
variable(wN:ĩb)
include oA vK in
def Af(F:įD):ĩV:=
 Ě ["prime","guards","left","monics","quotients","top","place","shift","number"] ["prime","guards","left","monics","quotients"] F T.gl (λ_ _ _ _ s _ _ nd hr=>by
 ext i) Ėo
variable(Cf:ĩV)
include e? mn in
def wO(F:ĮV):ĩv:=
 Ě ["_law_prime","_law_shares","_law_rows","_law_more","_law_pairs","_law_k"] ["_law_prime","_law_shares","_law_rows","_law_more"] F T.gl (λ_ _ _ _ s _ _ nd hr=>by
 ext i) üY
variable(Ag:ĩv)
include pZ in
def kL(F:Ī7):ħ2:=
 Ě ["_law_found","_law_many","_law_exponent"] ["_law_found","_law_many"] F T.gl (λ_ _ _ _ s _ _ nd hr=>by
 ext i)
variable(mB:ħ2)
include r? in
def Ah(F:įy):ĩR:=
 Ě ["_law_order","_law_row","_law_best","_law_term_here"] ["_law_order","_law_row"] F T.gl (λ_ _ _ _ s _ _ nd hr=>by
 ext i)
variable(mE:ĩR)
include fY in
def wQ(F:ĮU):ĩu:=
 Ě ["_law_script","_law_primes","_law_cell","_law_kind","_law_order","_law_many","_law_top","_law_terms","_law_prime"] Ď7 F T.gl (λ_ _ _ _ s _ _ nd hr=>by
 ext i)
variable(Ai:ĩu)
include fY e? Cc in
def wU(F:ĮT):ĩs:=
 Ě ["_law_script","_law_at","_law_shape_here","_law_count"] ["_law_script","_law_at","_law_shape_here"] F T.gl (λ_ _ _ _ s _ _ nd hr=>by
 have:(ħo:Vf).Nodup:=Ĳ
 ext i
 .refine cX (N:=ħo) (k:=1) rfl rfl (vH (cl:=[Ĺb,čJ,Įu]) (cl':=[Įu,čJ,Ĺb]) (caps':=[2,0,1])) ?_ ?_ ?_ ?_<;>intros<;>trivial)
variable(Aj:ĩs)
include fY e? in
def Ak(F:įw):ĩP:=
 Ě ["_law_script","_law_shape_here","_law_tops","_law_last","_law_found","_law_k","_law_cell","_law_row"] ["_law_script","_law_shape_here"] F T.gl (λ_ _ _ _ s _ _ nd hr=>by
 have:(ĭB:Vf).Nodup:=Ĳ
 ext i
 .refine cX (N:=ĭB) (k:=1) rfl rfl (gZ (cl:=[%["_law_shape_here"|ø_]])) ?_ ?_ ?_ ?_<;>intros<;>trivial)
variable(Cg:ĩP)
include ow in
def vO(F:Įg):ĩd:=
 Ě ["order","rows","terms","row","many"] ["order","rows"] F T.gl (λ_ _ _ _ s _ _ nd hr=>by
 have:(ıL:Vf).Nodup:=Ĳ
 ext i
 .refine Pl ù4 ù4 T.b.2.2.2.2.2.2.2.2.2.2.1 PyProof.Rows.Boot.«max» ?_ ?_
  .refine cX (N:=ıL) (k:=2) rfl rfl ăy ?_ ?_ ?_ ?_<;>intros<;>trivial
  ext V)
variable(wW:ĩd)
include yu in
def wX(F:ĮX):ĩx:=
 Ě ["ring"] ["ring"] F T.gl (λ_ _ _ _ s _ _ nd hr=>by
 ext i)
variable(Al:ĩx)
include yu in
def vP(F:Įf):ĩc:=
 Ě ["prime"] ["prime"] F T.gl (λ_ _ _ _ s _ _ nd hr=>by
 ext i)
variable(wY:ĩc)
include nB fZ in
def mG(F:īx):ħ':=
 Ě ["prime","packing","monics","quotients","sums","monic","terms"] ["prime","packing","monics","quotients"] F T.gl (λ_ _ _ _ s _ _ nd hr=>by
 ext i) üY
variable(nE:ħ')
include Cf in
def qM(F:ĭd):ĨQ:=
 Ě ["prime","guards","terms","monics","quotients","left","rest","top"] ["prime","guards","terms","monics","quotients"] F T.gl (λ_ _ _ _ s _ _ nd hr=>by
 ext i) Ėo
variable(sV:ĨQ)
include pZ mB in
def vQ(F:Įc):Ĩ':=
 Ě ["_law_found","_law_prime","_law_many","_law_k","_law_term_here"] ["_law_found","_law_prime","_law_many"] F T.gl (λ_ _ _ _ s _ _ nd hr=>by
 ext i)
variable(nP:Ĩ')
include r? mE in
def wZ(F:ĮR):ĩq:=
 Ě ĩX ĩX F T.gl (λ_ _ _ _ s _ _ nd hr=>by
 ext i)
variable(Am:ĩq)
include sP M7 Al in
def Eh(F:İ6):Ĩ7:=
 Ě ĸj ĸj F T.gl (λ_ _ _ _ s _ _ nd hr=>by
 ext i)
variable(ID:Ĩ7)
include nP in
def qO(F:ĭc):ĨP:=
 Ě ["_law_found","_law_prime","_law_many","_law_count","_law_row"] ["_law_found","_law_prime","_law_many","_law_count"] F T.gl (λ_ _ _ _ s _ _ nd hr=>by
 ext i) üY
variable(sW:ĨP)
include ID in
def p4(M:ħA):īV:=
 pj.mk M T.cl.2.1 jk (λ_ _ _ _ _ _=>ĻS) λf d5 A outer s H E hr=>by
 have:=jk.nd;have:(Ĭb:Vf).Nodup:=Ĳ
 ext i
 .refine cX (N:=Ĭb) (k:=2) rfl rfl (vH (cl:=[ļJ,ćk]) (cl':=[ćk,ļJ]) (caps':=[0,1])) ?_ úy úy úy
  ext eO
  ext V
  ext V
  ext V
variable(qP:īV)
include e? mn vM Ag mE nP Am sW in
def An(F:įx):ĩQ:=
 Ě ["_law_shape_here","_law_row","_law_by","_law_found","_law_k","_law_first","_law_high_here"] ["_law_shape_here","_law_row","_law_by","_law_found"] F T.gl (λ_ _ _ _ s _ _ nd hr=>by
 have:(Ĭa:Vf).Nodup:=Ĳ
 ext i
 .refine cX (N:=Ĭa) (k:=1) rfl rfl (gZ (cl:=[%["_law_first"|ø_]])) ?_ ?_ ?_ ?_<;>intros<;>trivial) üY
variable(Ci:ĩQ)
include oB fZ wW nE sV qP in
def w9(F:ĮY):ĩy:=
 Ě ["prime","order","row","by","packing","monics","quotients","rest"] Ė7 F T.gl (λ_ _ _ _ s _ _ nd hr=>by
 have:(įt:Vf).Nodup:=Ĳ
 have:(["one"]:Vf).Nodup:=Ĳ
 ext i
 .refine ċz 5 (N:=įt) (k:=1) nd rfl rfl (vH (cl:=[Ĺd,ďp]) (cl':=[ďp,Ĺd]) (caps':=[0,4])) ?_ ?_ ?_ ?_<;>intros<;>trivial
 .refine ċz 6 (N:=["one"]) (k:=1) nd rfl rfl ăy ?_ ?_ ?_ ?_<;>intros<;>trivial) üY
variable(Ao:ĩy)
include ny wN wY Ao in
def Ei(F:İ8):Īt:=
 Ě Ė7 Ė7 F T.gl (λ_ _ _ _ s _ _ nd hr=>by
 ext i) üY
variable(qQ:Īt)
include qQ in
def Ap(F:įB):ĪN:=
 Ě ["_law_prime","_law_order","_law_row","_law_by","e"] ["_law_prime","_law_order","_law_row","_law_by"] F T.gl (λ_ _ _ _ s _ _ nd hr=>by
 ext i
 .refine Uh T.qx.known (ù',rfl,rfl) ?_ ?_
  .refine OJ ?_
   .refine Kq ?_
    .refine Uj qQ hr ø ù4 (ù') ċa<;>trivial
  .refine Um (i:=4) T.sub nd T.c.1 ù4 (λ_ _=>?_) ?_
   ext V
   .exact Ud) üY
variable(Cj:ĪN)
include Cj in
def sZ(F:ĭJ):ĩt:=
 Ě ["_law_shape_here","_law_row","_law_by","_law_more","_law_no_prime","_law_no_order","_law_at","_law_bad","_law_some"] ["_law_shape_here","_law_row","_law_by","_law_more"] F T.gl (λ_ _ _ _ s _ _ nd hr=>by
 ext i) üY
variable(vR:ĩt)
include fY e? Ce Ae mE Ai Aj Cg Ci qQ vR in
def aa6(F:Nc K "law" "law" ĉq f fd):gN P w K mg base üb 11 f fd Ď7 (IK Ąd MQ):=
 yS F Aa λd5 A outer s H E hr=>by
 have:=Aa.nd;have:(ĨS:Vf).Nodup:=Ĳ
 have:(ĜI:Vf).Nodup:=Ĳ
 have:(Ĭx:Vf).Nodup:=Ĳ
 ext i
 .refine ċz 3 (N:=ĨS) (k:=1) Aa.nd rfl rfl (vH (cl:=[čJ,ėl]) (cl':=[ėl,čJ]) (caps':=[1,0])) ?_ ?_ ?_ ?_<;>intros<;>trivial
 .refine ċz 3 (N:=ĜI) (k:=1) Aa.nd rfl rfl ăy ?_ ?_ ?_ ?_<;>intros<;>trivial
 .refine cX (N:=Ĭx) (k:=1) rfl rfl (gZ (cl:=[ėl])) ?_ ?_ ?_ ?_<;>intros<;>trivial
 ext ec
 ext ec
 ext ec
open e
def all_mk[357]{K:Va}[121](hfa:mg "law" = Ċi){f48:Vi}{aeS ads:úM}{aeT:ĈR}{aeU adt adu adv aa7 adw:Vg}{w!:Tok}{Aq:Tok}{kF:Vi}{s?:úM}{tf:Nat}{ti:ĈR}{qR qT qU qW qX qY qZ q! q? rh p5:Tok}{yw:Vi}{IE:úM}{IF:Nat}{IG:ĈR}{Ej Ek:Tok}(m0:Ħ')(m1:ħB)(m2:Ħg)(h3:İk)(h4:Ĭj)(h5:Įh)(h6:ĭe)(h7:İj)(h8:īv)(h9:īw)(h10:īQ)(h11:ĭK)(h12:ĭG)(h13:ĮW)(h14:Įd)(h15:ĭI)(h16:įz)(h17:ĭH)(h18:įA)(h19:įC)(h20:ĮS)(m21:ħa)(m22:Ħh)(h23:İ7)(h24:ıS)(h25:Įe)(h26:įD)(h27:ĮV)(h28:Ī7)(h29:įy)(h30:ĮU)(h31:ĮT)(h32:įw)(h33:Įg)(h34:ĮX)(h35:Įf)(h36:īx)(h37:ĭd)(h38:Įc)(h39:ĮR)(h40:İ6)(h41:ĭc)(m42:ħA)(h43:įx)(h44:ĮY)(h45:İ8)(h46:įB)(h47:ĭJ)(a48:ýZ K mainGlobals "law" = some (some Łl))(l48:þK f48=some (aeU,aeS,ā1 (Ħk),aeT))(c48:ĒW K aa7 "law" = true)(QM:ă6 K Łl=true)(zb:DC K ĤY)(zc:DD K ĥ2)(jD:ýZ K mainGlobals "SPARE_BITS" = some (some (.int 40 w!)))(kC:ýZ K mainGlobals "MOST_RING" = some (some (.int 997 Aq)))(gT:ýZ K mainGlobals "FIRST_PRIMES" = some (some (.ref kF)))(gU:þK kF=some (ùk,s?,.seq #[.int 2 qR,.int 3 qT,.int 5 qU,.int 7 qW,.int 11 qX,.int 13 qY,.int 17 qZ,.int 19 q!,.int 23 q?,.int 29 rh,.int 31 p5] tf,ti))(ri:ýZ K mainGlobals "ORDERS" = some (some (.ref yw)))(rj:þK yw=some (ùk,IE,.seq #[.str "lex" Ej,.str "deg" Ek] IF,IG))(zz:DG K ĥE)(zp:jg K adk)(zv:u7 K ĕT)(zw:ĩC)(zq:DE K kn):
  ∃fd:FuncData,(∀(s:Vh)(v:Vg),BindsTo s fd ([v],[]) [%["_law_script"|v]])/\∀base:Heap,Ġt->ĆW->gN Ą7 w K mg base ŁR 11 fa fd Ď7 (Ks K):=by
 have e:=hfa.symm.trans (ýN X G a48);ext g;refine(Ħk,λs v=>.of_eq rfl,λbase _ _=>?_);have T:Txt Ą7 w K mg base:=(λ_ _ h=>ýN X G h,zb.get X G,zc.get X G,Glob.int (ýN X G jD),Glob.int (ýN X G kC),Glob.ints (ns:=Ĭz) (ýN X G gT) gU rfl rfl įY (Ċ ę (Ċ ę (Ċ ę (Ċ ę (Ċ ę (Ċ ę (Ċ ę (Ċ ę (Ċ ę ĭv))))))))),Glob.strs (ns:=Ŀ8) (ýN X G ri) rj rfl rfl įY ĭv,zz.get X G,zp.get X G (zv.get X G zw),zq.get X G)
 have oC:=nv T  m0;have rm:=pW T  m1;have kD:=jQ T  m2;have El:=Ca T  h3;have p6:=oy T  h4;have w?:=vJ T  h5;have tj:=qK T  h6;have Em:=Cb T  h7;have nF:=l! T  h8;have nG:=l? T  h9;have oE:=nC T  h10;have vS:=sQ T  h11;have f_:=sS T  h12;have p7:=wL T  h13;have fc:=vL T  h14;have mH:=sT T  h15;have sd:=Ab T  h16;have vT:=sU T  h17;have Ck:=Ac T  h18;have Cm:=Ad T  h19;have Ar:=wM T  h20;have oF:=nD T rm m21;have f?:=jR T kD m22;have yx:=Eg T El p6 h23;have M8:=IC T w? h24;have xc:=vN T Em h25;have Cn:=Af T oE vS h26;have As:=wO T fc mH h27;have mI:=kL T p7 h28;have mJ:=Ah T sd h29;have Au:=wQ T f_ h30;have Av:=wU T f_ fc Ck h31;have Co:=Ak T f_ fc h32;have xg:=vO T oC h33;have Aw:=wX T yx h34;have xh:=vP T yx h35;have nH:=mG T nG f? h36;have tm:=qM T Cn h37;have nQ:=vQ T p7 mI h38;have Ax:=wZ T sd mJ h39;have IH:=Eh T tj M8 Aw h40;have tq:=qO T nQ h41;have rn:=p4 T IH m42;have Cp:=An T fc mH vT As mJ nQ Ax tq h43;have Ay:=w9 T oF f? xg nH tm rn h44;have yy:=Ei T nF xc xh Ay h45;have Cr:=Ap T yy h46;have vU:=sZ T Cr h47;exact(aa6 T f_ fc Cm Ar mJ Au Av Co Cp yy vU (CW (st:=top 61) l48 c48 QM)).imp λ_ _ _ _ h=>Ul M5 h
open e _M
structure PySem.W.Fast:Prop where(tw1771241913809658375 tw7707760600008632484 tw1250517442606960896 tw11363664454815740620 tw14645310817657947895 tw3985323240071302281 tw9147610416010603549 tw9811333629853549113 tw9003170671890594796 tw12465999613866649847 tw14493996196427040149 tw7434485824220789858 tw6457261813349213828 tw8297554998971199827 tw18052973081949830841 tw12164920980646984057 tw13689876770213476203 tw18250917731223251348 tw10364445854993905855 tw709667272830523507 tw14163252406256067272 tw9565798083978126316 tw5136427628429081029 tw9145390994034493693 tw18138866501429210343 tw7823801218223811654 tw1950808457398201025 tw2213077761904934334 tw687857960949028484 tw1617412371314303988 tw9331410967551435735 tw16473027642423370277 tw16767930289062399297 tw9323989367475177042 tw14406388936987439046 tw10984303120230664741 tw10879202850928464658 tw7458181793096426296 tw10164207317269354930 tw2334878626126468849 tw12602493435691291834 tw11061146100357897568 tw2537627743077904140 tw8185961859434670478 tw694910406338337677 tw4228217251655053122 tw3519999337453043434 tw10721010808681825471 tw13296909459201452164 tw8683266729096412399 tw3000140204482197888 tw15678661253117210917 tw14548873022658825904 tw9917410612699341923 tw2330617830525113556 tw6566724423948654550 tw3312249253117340041 tw15223317264300509924 tw15954123061510904812 tw12636135244239429053 tw9112965941742908865 tw9461857829653849264 tw18180886787265837783 tw5112511379119033381 tw11406324923597715179 tw13315577455828391531 tw11556491251948389640 tw5219871174788554127 tw15116066983583044525 tw18233539552800939973 tw9046276810642325521 tw16756491855168641339 tw15387057734121264197 tw3783776517518525467 tw6784210164034978800 tw185776881549740363 tw12667147781138079338 tw10445453615496155461 tw13535363991645471074 tw2637118424803613945 tw17029760622940514632 tw4622425580409586044 tw10945265225308106768 tw17412528639775225672 tw12892909763593308683 tw17641017161964399578 tw5299469156238506767 tw680466417631521081 tw4258418725603660851 tw6057423869449097320 tw7785846919852749641 tw6298605605662349412 tw273616002591876694 tw8347726685624134780 tw11662899629933374124 tw4274640219378932352 tw1275970130247864980 tw16421420587425624089 tw12969938348519198875 tw2388144022423209549 tw1752569264018592762 tw9360562431972239571 tw580769312737977483 tw4037530719806998365 tw10094176166343956850 tw16945088472078170984 tw1531414472713785502 tw6161049726784363945 tw4593074575815535707 tw6344038632239430112 tw6380953522869500758 tw3973561634038839871 tw1062612577120756061 tw4112608565742577721 tw17097563729487087280 tw8224054543780584008 tw10942049948273218362 tw3272319856012357234 tw13984935131691884779 tw8984091580062064881 tw17950206093963907553 tw14776378610995462218 tw11331990136411046302 tw14784511222461237131 tw7760600435348839744 tw2024110163648727805 tw6364845925848553865 tw6775668560570709942 tw7586553156694562369 tw16268039106260338554 tw5123131210202792249 tw16378381377006925000 tw2216643651840900451 tw16718345349120156469 tw8965561274110685179 tw8459920082531372423 tw13152912650978976123 tw10793256523084416165 tw9099030990551953156 tw5901635568560634568 tw18325149952598416130 tw6764689109321597306 tw6473866709331475079 tw7699677498863047893 tw8345330921715319690 tw1650240912998291286 tw15975789672643652400 tw11929475422395594355 tw10599212513580875856 tw8261860024517190015 tw14512579736712448918 tw13111748554756534183 tw334858761822285529 tw2191403058441130196 tw12477170523928016665 tw11646749005920227512 tw10923546061401129877 tw4365301838504544489 tw8545776047428166991 tw5883329018957556453 tw7882309669533752441 tw4969485085376995212 tw4690234574448525232 tw15509821511770942567 tw10724693914833887414 tw10320135072021682978 tw89541932352860961 tw7375112773482387575 tw5268540513685898449 tw2629845842271428271 tw12387349671822821964 tw8488466880437902780 tw6563806379564301561 tw17987651729006832454 tw6532949456018015408 tw2456878198659261317 tw7741246103961175469 tw7140548423917884221 tw2802316253423852207 tw18076717027871837251 tw15699499518201878405 tw130514851591566521 tw15283570575249328212 tw7326405850306162001 tw16874340112054206481 tw3061154330560757564 tw9107167466718010970 tw2715738845753061665 tw8968705706878411550 tw7374465394424749999 tw6484590219445152186 tw6178052644428174146 tw3960067755615119761 tw2461077545553878644 tw18219839622792904646 tw15681286254104763306 tw10669392931509639269 tw14974102580508338651 tw9433771611234688920 tw4912857388280219897 tw3612711946752579196 tw3304649527544223072 tw2601665162441561111 tw10339045355895646818 tw4663432662609170137 tw5788664759961719609 tw17934966300241539810 tw9315335877942636789 tw9181490613349865214 tw7824638218072788250 tw7792047836948652118 tw7268825290969552041 tw7186952736711436991 tw7095182065642968921 tw6862812046541044588 tw6823628686554531359 tw68064533209179533 tw6620800343097856539 tw643733464050726566 tw6263989022743490592 tw6210309401507996531 tw620076309149401267 tw6111827547391121044 tw5706482207368244004 tw4983546944542907599 tw4791153454453263581 tw4269914739242827409 tw424279294418392867 tw373404489475453256 tw3505697275148079951 tw335145242558465275 tw3349218133851962590 tw2504570314730455832 tw2344936982000599626 tw2343297827514887112 tw2298012340696252769 tw1938516300213273723 tw17518050913051703358 tw1740740903806101601 tw1649595017815266856 tw16347316404365048251 tw1615618808720153726 tw15809406393447796036 tw15381542360860601394 tw14671450941522569342 tw14619115170942279001 tw14328798294620004564 tw14218591274072987099 tw14053280837806921952 tw13486763617401964449 tw13433001302405378495 tw13176744458930162559 tw1299563394474614015 tw12662015623314729859 tw11835998682643745233 tw11807422900746628100 tw11525886286395529496 tw112284185182453652 tw1059527302051812574 tw4352425860314795404 tw3416499240650072636 tw8442017906650752470 tw5887071414548609747 tw13039254121084092889 tw12304716765278719231 tw1009551312419534009 tw2634192694022060590 tw17188909197198510530 tw265469514380873890 tw1248654497518419354 tw10915976800551120953 tw7650039203708264253 tw5835436870139510368 tw2519043138746914609 tw11983878952919308295 tw9598240237035185616 tw7750064257867615034 tw5979082336576737408 tw264859082883121240 tw176818123280835598 tw16381029469604977676 tw14373956376502441211 tw14067487309943102072 tw11665679016849080857 tw10983357456270582501 tw10955000780707999881 tw7172529687601199652 tw4646629475472825310 tw296671417959958180 tw1814819241293291190 tw9896060472621570164 tw6826059191658957608 tw6415519873135339636 tw5528203821124169088 tw3033961810585987225 tw17535203858065412245 tw17223775918381506373 tw13512469368480092583 tw9003177117256791487 tw8838189568125080385 tw6683987736180427752 tw6655056169077883932 tw487653600219059128 tw15477008952377899135 tw6756632134816681399 tw3088343183554521504 tw18065622182012042554 tw17854898380942627483 tw1727173134314379276 tw15285531934163724883 tw14219713561891009810 tw12741670286174624308 tw12142208831852036887 tw9910875759408037562 tw9820416470119788736 tw9559928649536271101 tw9496620616040033620 tw9460845225927188972 tw9320115341006038132 tw9210987029657290590 tw9192747048341551007 tw9189665033285071216 tw8972088719971704483 tw8737857586343800575 tw8607653402604113285 tw8525111527495879922 tw8258267379046701037 tw8250112376510287736 tw8241256678154439662 tw7971515358110611492 tw7816779667143205391 tw7763984621515504772 tw731949208301506395 tw7244288831632582864 tw7072937500592177668 tw6946093553211863169 tw6907974332537170981 tw6674614790249784788 tw6664408415026203320 tw6663594562926709321 tw6218697983606684978 tw6052991876341524505 tw603703751023367807 tw5987419630086833030 tw5984816274359195168 tw5816124275515593882 tw5723070638480450268 tw5659545705042322489 tw542714479456095260 tw5245889805874382327 tw5010608473507278985 tw4878187147006975220 tw482352148623813832 tw4777246710140050430 tw4759345977553198353 tw4626622587216575401 tw4581647270589770970 tw4551897068697460894 tw4517974390666842419 tw4345690318056528021 tw3832619354341885808 tw3810042606346186535 tw3797421093298157325 tw3731692462281870035 tw3555210888196841584 tw3458202052789687478 tw3338431913791367782 tw3264571325637204871 tw2915833253668791034 tw2829358980500180206 tw2750312650509478207 tw2683155091481139338 tw2633657372863348648 tw2559088617300199491 tw2503190884352792481 tw2458385421406629738 tw2202335682623483203 tw1971389491976321536 tw18395018066195553555 tw18303917251596539633 tw18211106485495178610 tw1818885517913719149 tw18134486692061776262 tw18007372251201449670 tw17997888586689630128 tw17970121329083617624 tw17883793825159021120 tw17680543037058196767 tw17678424909219314031 tw17147090806087369926 tw16921812083539981697 tw16206396387335059897 tw16033537165425568831 tw15949777286992691692 tw15481339537483113129 tw15262810448740905699 tw15216156695375887104 tw15215652123872003339 tw15063951231956979719 tw14944778237385791176 tw14831470165891897452 tw14474543927134615185 tw14460571580661216871 tw14139839662898815962 tw14092077909676230332 tw14042158081829930980 tw13900889326168258524 tw13804386567496283790 tw13489791560505468001 tw1348053970577124626 tw13324177447830592098 tw13247376443882570391 tw13212568146912795005 tw132070552271513335 tw12754252745966945366 tw12409900806726533410 tw12203637994331792070 tw12192445586889005732 tw1214010601939038373 tw12118912733948848362 tw12117283720800901107 tw11732006264691416603 tw11565840795392899831 tw11523710408925232720 tw11432376374819093129 tw11405237643407032164 tw11327118466252127677 tw1128353341938921191 tw11234596796416270997 tw11036554637347615231 tw10620863385415487601 tw10286147133075185444 tw10269463177215623215:True)
open PySem.W PyProof.Rows
end
set_option maxRecDepth 100000 in
set_option maxHeartbeats 0 in
theorem PySem.Challenge.cw_polyring_k34_reduced_shown_holds : PySem.Challenge.rw_polyring_k34_reduced_shown.Holds := by
 w_on;o_law;k_head;(case hw=>w_witness2)
 k_fill
 refine _D.Kt (l:=PySem.Challenge.rw_polyring_k34_reduced_shown) (k:=11) (x:="_law_script") rfl rfl (rfl,by decide,by decide) (λw h σ=>PySem.W.kIn_of σ) ?F
 case F=>
  intro w mg fa h KX G hmg;refine' _M.all_mk KX G hmg ?m0 ?m1 ?m2 ?h3 ?h4 ?h5 ?h6 ?h7 ?h8 ?h9 ?h10 ?h11 ?h12 ?h13 ?h14 ?h15 ?h16 ?h17 ?h18 ?h19 ?h20 ?m21 ?m22 ?h23 ?h24 ?h25 ?h26 ?h27 ?h28 ?h29 ?h30 ?h31 ?h32 ?h33 ?h34 ?h35 ?h36 ?h37 ?h38 ?h39 ?h40 ?h41 ?m42 ?h43 ?h44 ?h45 ?h46 ?h47 ?a48 ?l48 ?c48 ?QM ?zb ?zc ?jD ?kC ?gT ?gU ?ri ?rj ?zz ?zp ?zv ?zw ?zq
  (case h3|h4|h5|h6|h7|h8|h9|h10|h11|h12|h13|h14|h15|h16|h17|h18|h19|h20|h23|h24|h25|h26|h27|h28|h29|h30|h31|h32|h33|h34|h35|h36|h37|h38|h39|h40|h41|h43|h44|h45|h46|h47=>refine' _D.df.mk ?a ?l ?c ?k;(case a=>k_is);(case l=>k_is);(case c=>k_is);(case k=>k_is);skip)
  (case m0|m1|m2|m21|m22|m42=>refine' _D.Bp.mk ?n ?a ?i ?l ?d ?k;(case n=>k_is);(case a=>k_is);(case i=>k_is);(case l=>k_is);(case d=>k_is);(case k=>k_is);skip)
  (case a48=>k_is)
  (case l48=>k_is)
  (case c48=>k_is)
  (case QM=>k_is)
  case zb=>
   repeat (refine' _D.DC.cons ?a ?_;(case a=>k_is);skip)
   exact .nil
  case zc=>
   repeat (refine' _D.DD.cons ?a ?e ?s ?_;(case a=>k_is);(case e=>k_exc);(case s=>k_is);skip)
   exact .nil
  (case jD=>k_is)
  (case kC=>k_is)
  (case gT=>k_is)
  (case gU=>k_is)
  (case ri=>k_is)
  (case rj=>k_is)
  case zz=>
   repeat (refine' _D.DG.cons ?yya ?yyp ?yyd ?yyo ?yys ?yym ?yyk ?yyf ?_;(case yya=>k_is);(case yyp=>k_is);(case yyd=>k_is);(case yyo=>k_is);(case yys=>k_is);(case yym=>k_is);(case yyk=>k_is);(case yyf=>(repeat (refine' _D.DF.cons ?yyb ?_;(case yyb=>k_is);skip));exact .nil);skip)
   exact .nil
  case zp=>
   repeat (refine' _D.jg.cons ?a ?b ?c ?d ?e ?_;(case a=>k_is);(case b=>k_is);(case c=>k_is);(case d=>k_is);(case e=>first|k_is|kit_is);skip)
   exact .nil
  case zv=>
   repeat (refine' _D.u7.cons ?a ?e ?_;(case a=>k_is);(case e=>first|k_is|kit_is);skip)
   exact .nil
  (case zw=>k_is)
  case zq=>
   repeat (refine' _D.DE.cons ?a ?e ?_;(case a=>k_is);(case e=>first|k_is|kit_is|rfl|decide +kernel);skip)
   exact .nil
