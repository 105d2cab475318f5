import PyProof.Rows.All
import Wide.All
import Wide.FinOn
import OpenK.KLine
import OpenK.KQuick
import OpenK.KOwn
import KE.RegKIsAll
import KE.RegKTryDeep
import KE.KDictOf
import KE.KItem
import KE.KIsAll
import Lean
import PyProof.EqAt
import PyProof.EqKinds
import PyProof.TupleCall
import PySem.Challenge.RW_holebook_k75_whole_book_of_any_shape
set_option linter.all false
set_option Elab.async false
set_option maxRecDepth 100000
set_option genSizeOf false
set_option tactic.hygienic false
set_option bootstrap.genMatcherCode false
set_option genInjectivity false
set_option maxHeartbeats 0
set_option compiler.extract_closed false
noncomputable section
local macro_rules|`(tactic|ac_rfl)=>`(tactic|first|exact .inl rfl|exact .inr rfl|assumption)
def zc:=Lean.Syntax.node .none
def zd:=Lean.mkAtom
def ze:=@Lean.mkNullNode
def zf:=Lean.Name.str `Lean.Parser.Term
def zg:=Lean.Name.str `Lean.Parser.Tactic
def zh:=Lean.Name.str `Lean.Parser.Command
def zi(a:Array Lean.Syntax):=zc ``Lean.Parser.Tactic.rcasesPat.one a
def zj:Nat->Lean.Syntax->Lean.Syntax
 | 0,x=>x
 | n+1,x=>if x.isOfKind (zf "paren") then zj n x[1] else if x.isOfKind (zf "anonymousCtor") then zc ``Lean.Parser.Tactic.rcasesPat.tuple #[x[0],ze (x[1].getArgs.map fun y=>if y.isAtom then y else zc (zg "rcasesPatLo") #[zc (zg "rcasesPatMed") #[ze #[zj n y]],ze #[]]),x[2]] else zi #[if x.isIdent then x else Lean.mkIdent `_y9]
def zk(c:Char):Nat:=if c.isDigit then c.toNat-48 else if c.isUpper then c.toNat-55 else c.toNat-61
def zn(c:Char):Nat:=if c.isLower then c.toNat-97 else c.toNat-39
def zo(s:Lean.Syntax):Nat:=match s.getId.toString.toList with
 | [x]=>zn x
 | [x,y]=>52+zn x*62+zk y
 | [x,y,z]=>3276+(zn x*62+zk y)*62+zk z
 | _=>1000000
def zp(x y:Lean.Syntax):Lean.Syntax:=if y.isOfKind (zf "syntheticHole")&&zo y[1]<3 then x[1][zo y[1]] else y
def zr(y:Lean.Syntax):Bool:=y.isOfKind (zf "instBinder")&&y[2].isOfKind (zf "forall")
def zt(y:Lean.Syntax):Bool:=y.isOfKind (zf "nomatch")&&y[1].getNumArgs>2
def zu(m:Array Lean.Syntax)(x:Lean.Syntax):Lean.Syntax:=
 if x.isOfKind (zf "syntheticHole") then m.getD (zo x[1]) x
 else if x.isOfKind (zf "app")&&x[0].isOfKind (zf "explicit")&&x[0][1].isOfKind (zf "paren") then x[0][1][1].rewriteBottomUp (zp x)
 else if x.isOfKind Lean.nullKind&&x.getArgs.any zr then x.setArgs (x.getArgs.flatMap fun y=>if zr y then y[2][1].getArgs else #[y])
 else if x.isOfKind `«term#[_,]»&&x[1].getArgs.any zt then x.setArg 1 (x[1].setArgs (x[1].getArgs.flatMap fun y=>if zt y then y[1].getArgs else #[y]))
 else if x.isOfKind ``Lean.Elab.Tactic.Ext.ext then match x.find? (·.isIdent) with
  | some i=>match m[zo i]? with
   | some t=>zc (zg "paren") #[zd "(",t[1],zd ")"]
   | none=>x
  | none=>x
 else x
def zw(c:Char)(n:Nat):Nat:=n*62+(if c.isDigit then c.toNat-48 else if c.isLower then c.toNat-87 else c.toNat-29)
def zx(y:Lean.Syntax):Bool:=y.isOfKind (zg "tacticHave__")&&y[y.getNumArgs-1][0].isOfKind (zf "letPatDecl")
def zy(d:Lean.Syntax):Lean.Syntax:=zc (zg "obtain") #[zd "obtain",ze #[zc (zg "rcasesPatMed") #[ze #[zj 9 d[0]]]],ze #[],ze #[d[3],ze #[d[4]]]]
def yc(x:Lean.Syntax):Lean.Syntax:=x.rewriteBottomUp fun y=>if y.isIdent then Lean.mkIdent y.getId.eraseMacroScopes else y.setInfo .none
def yd(q:Array Lean.Syntax)(x:Lean.Syntax):Lean.Syntax:=(if x.isOfKind (zf "basicFun") then x.setArg 0 (x[0].setArgs (x[0].getArgs.map fun y=>if y.isOfKind (zf "hole") then Lean.mkIdent `_y9 else y))
 else if x.isOfKind Lean.nullKind&&x.getArgs.any zx then x.setArgs (x.getArgs.mapIdx fun i y=>if zx y then (if i>1&&zx x[i-2] then #[] else #[q[1]!,zd ";"])++#[(zy y[y.getNumArgs-1][0]).setInfo .none]++(if zx x[i+2] then #[] else #[zd ";",q[2]!]) else #[y]).flatten
 else if x.isOfKind ``Lean.Parser.Tactic.rcasesPat.ignore then zi #[Lean.mkIdent `_y9]
 else if x.isOfKind (zg "exact") then zc (zg "show") #[zd "show",x[1]]
 else if x.isOfKind (zg "show") then zc (zg "exact") #[zd "exact",x[1]]
 else if x.isOfKind (zg "cases")&&x[1].getNumArgs==1&&x[1][0][0].getNumArgs>0&&x[3].getNumArgs==0 then zc `«tacticBy_cases_:_» #[zd "by_cases",ze #[x[1][0][0][0][0],x[1][0][0][1]],x[1][0][1]]
 else if (x.isOfKind (zg "tacticHave__")||x.isOfKind (zg "tacticLet__"))&&x[x.getNumArgs-1][0].isOfKind (zf "letIdDecl") then
  if x.isOfKind (zg "tacticLet__") then zc (zg "tacticHave__") (x.getArgs.set! 0 (zd "have")) else zc (zg "tacticLet__") (x.getArgs.set! 0 (zd "let"))
 else if x.isOfKind (zg "apply") then zc (zg "refine") #[zd "refine",x[1]]
 else if x.isOfKind (zg "refine") then zc (zg "apply") #[zd "apply",x[1]]
 else if x.isIdent&&x.getId.toString.startsWith "t_" then Lean.mkIdent (.mkSimple s!"tw{(x.getId.toString.drop 2).toString.toList.foldl (fun n c=>zw c n) 0}")
 else if x.isOfKind `«term#[_,]» then zc (zf "anonymousCtor") #[zd "⟨",x[1],zd "⟩"]
 else if x.isOfKind `Vector.«term#v[_,]» then zc `«term#[_,]» #[zd "#[",x[1],zd "]"]
 else if x.isOfKind (zh "declaration") then
  let d:=x[1]
  if d.isOfKind (zh "definition") then x.setArg 1 (zc (zh "theorem") #[zd "theorem",d[1],zc (zh "declSig") #[d[2][0],d[2][1][0]],d[3]])
  else if d.isOfKind (zh "abbrev")&&x[0][4].getNumArgs==0 then
   (if d[3][1].isOfKind (zf "explicit") then x else x.setArg 0 (x[0].setArg 4 (ze #[zc (zh "noncomputable") #[zd "noncomputable"]]))).setArg 1 (zc (zh "definition") #[zd "def",d[1],d[2],d[3],ze #[]])
  else x
 else match if x.isOfKind (zg "tacticLet__") then x.find? (·.isOfKind (zf "letPatDecl")) else none with
 | some d=>zy d
 | none=>x).setInfo .none
def ye(q:Array Lean.Syntax)(c:Lean.Syntax):Lean.Syntax:=if c.isOfKind (zh "declaration")&&c[0][4][0].isOfKind (zh "meta") then c.setArg 0 (c[0].setArg 4 (ze #[zc (zh "noncomputable") #[zd "noncomputable"]])) else if c.isOfKind (zh "declaration")&&c[0][2].getNumArgs>0 then q[3]!.setArg 2 (c.setArg 0 (c[0].setArg 2 ze)) else c
def yf(q:Array Lean.Syntax)(c:Lean.Syntax):Lean.Syntax:=
 let a:=match c.find? (·.isOfKind `«term[_]») with | some l=>l[1].getSepArgs | none=>#[]
 ze ((Array.range (a.size/2)).map fun i=>let v:=a[2*i+1]!;q[if v.isOfKind `num then 5 else 4]!.rewriteBottomUp fun s=>if s.isIdent&&s.getId==`x then a[2*i]!.setInfo .none else if s.isOfKind `num||s.isOfKind (zf "explicit") then v else s)
def yg(m q:Array Lean.Syntax)(c:Lean.Syntax):Lean.Syntax:=if c.isOfKind (zh "check") then yf q c else if c.isOfKind (zh "universe") then if c[1].getNumArgs>1 then ze (c[1].getArgs.map fun i=>q[0]!.rewriteBottomUp fun s=>if s.isIdent&&s.getId==`x then yd q i else s) else zc (zh "end") #[zd "end",ze (if c[1][0].getId==`e9 then #[] else #[c[1][0],ze])] else ye q ((c.rewriteBottomUp (zu m)).rewriteBottomUp (yd q))
local macro_rules|`(command|mutual $cs* end)=>do
 unless cs[0]!.raw.isOfKind ``Lean.Parser.Command.check do Lean.Macro.throwUnsupported
 let some l:=cs[0]!.raw.find? (·.isOfKind `«term[_]»)|Lean.Macro.throwUnsupported
 let mut m:=l[1].getSepArgs.map fun x=>if x.isOfKind ``Lean.Parser.Term.inaccessible then x[1] else x
 for _ in [0:((cs[0]!.raw.find? (·.isOfKind `num)).get!.isNatLit?).get!] do m:=m.map (·.rewriteBottomUp (zu m))
 let q:=#[(←`(command|theorem x:True:=⟨⟩)).raw,←`(tactic|refine Au fun gG gH=>?_),←`(tactic|refine gH ?_),←`(command|set_option tactic.hygienic true in theorem x:True:=⟨⟩),←`(command|def x:=@y),←`(command|noncomputable abbrev x:Stmt:=top 0)].map yc
 return Lean.mkNullNode ((cs.extract 1 cs.size).map fun c=>yg m q c.raw)
mutual
#check(5,[?a,?b,?c,.(by first|with_reducible(first|assumption|show Nat.le_trans ‹_› (Nat.le_of_ble_eq_true rfl)|show Nat.lt_of_lt_of_le ‹_› ‹_›|show Nat.le_of_lt ‹_›|show Nat.lt_of_lt_of_eq ‹_› ‹_›|show Nat.lt_of_lt_of_eq ‹_› (Eq.symm ‹_›)|show Nat.lt_of_le_of_lt ‹_› ‹_›|show Nat.succ_le_of_lt ‹_›|show Nat.le_of_not_lt ‹_›|show Nat.sub_le _ _|show Nat.le_of_succ_le ‹_›|show Nat.lt_succ_of_lt ‹_›|show Nat.le_add_right _ _|show Int.toNat_sub _ _|show Nat.le_trans (Nat.min_le_right _ _) ‹_›|show Nat.le_trans (Nat.sub_le _ _) (Nat.le_trans (Nat.le_of_eq ‹_›) ‹_›)|show Nat.sub_succ_lt_self _ _ ‹_›|show znb ‹_›|show znc ‹_›|show Nat.succ_sub ‹_›|show Int.natAbs_neg _|show znd ‹_›|show zne ‹_› ‹_› ‹_›|show znf ‹_› ‹_›|show znh ‹_›|show zng ‹_›|show zni ‹_›|show znj ‹_›|show Nat.add_sub_of_le (Nat.succ_le_of_lt ‹_›))|lia),.(by first|(apply Hb.let13 ?_;intro _ _ _ _ _ _ _ _ _ _ _ _ _)|(apply Hb.let12 ?_;intro _ _ _ _ _ _ _ _ _ _ _ _)|(apply Hb.let10 ?_;intro _ _ _ _ _ _ _ _ _ _)|(apply Hb.let9 ?_;intro _ _ _ _ _ _ _ _ _)|(apply Hb.let8 ?_;intro _ _ _ _ _ _ _ _)|(apply Hb.let7 ?_;intro _ _ _ _ _ _ _)|(apply Hb.let6 ?_;intro _ _ _ _ _ _)|(apply Hb.let5 ?_;intro _ _ _ _ _)|(apply Hb.let4 ?_;intro _ _ _ _)|(apply Hb.let3 ?_;intro _ _ _)|(apply Hb.let2 ?_;intro _ _)),.(by first|(apply Hb.letG6 ?_;intro _ _ _ _ _ _)|(apply Hb.letG5 ?_;intro _ _ _ _ _)|(apply Hb.letG4 ?_;intro _ _ _ _)|(apply Hb.letG3 ?_;intro _ _ _)|(apply Hb.letG2 ?_;intro _ _)|(apply Hb.letG1 ?_;intro _)),.(by ext d),rfl,some,sumN,i+1,qa5 _,qa4,∀(K:W.Frag),a,spot,wpAny,qa7,n+1,if_neg,.int,∀{xs:LLInt},a,p.1,decide,.inl,.inr,?s ?g,if_pos,∀(I:?bQ),a,upd,det,∀{K:W.Frag},a,k+1,.(by simp),pos,.ref,?ayu Int,?A ?h,.(by decide),i<n,∀(xs:LLInt),a,?a6 Int,this,.(nomatch h1,h2),?I a,∀{t:?Y},a,X.env,.lst,.(nomatch ?h,?h),autoParam,absurd,?ayu Nat,?i o,j+1,c<w,?a6 V,?zy ?bU X.w,X.A,qb3 _,List,X.K,Rep,prodN,s.heap,V.int,f i,∀{f:?J},a,.(nomatch H1,I1),t j,s.heap.objs.size,.nil,∀(f:?J),a,Zrr._auto_1,?I p,(k:Int),?cq H H',w+n,none,spot+1,X.xe,∀{Ae:Bn}{σ:St}{H:Hp}{s:Shared},a,.none,2 ^ b,j<n,∀{vs:?a2},a,?i v,?t i,.(by let ?wI:=ry),∀(φ:?cy),a,.(nomatch _,?h),?zy prog w,G σ H,?s h,m+1,.cons,beside,(xs:LLInt),∀{G:?ax},a,∀(t:?Y),a,sumN_one,j<i,t l,addR,.(by intro z;cases z),?azs k,sumN_all0,?b4K Hp,.non,_,∀{ps:?g3},a,∀{a:Addr},a,(n:Int),St->?ar,∀(hs:?dF),a,.(nomatch es,ep),H a,?A z,Reps,?A h,?a6 ?eh,.tup,∀{P:Program}{w:World},a,2 ^ π,Bits,.(by grind),xs.getD,.(by split<;>ext d),∀{s:Shared},a,?A ?g,.(by intro Ae s σ H Q I h),∀{H H':Hp},a,G σ,_::_,.seq,∀(hK:?atv ?WF),a,∀{G:?b4K St},a,I.hok,?a6 Str,(-1),its.toArray,LT K H ?R xs,?asO H s,f j,2 ^ c,?I b,X.prog,?I ?aG,∀{A:Around}{E:?kl},a,∀{pos:Pos},a,ms.map,H p=none,?aua 1,∀{Q:?kl},a,∀{u:Value},a,?b0k ms,xs.length,(?atH ?_),d+1,List.replicate,qa2.mp,Lat.Mat × Lat.Mat,zs k,?auL H D,In.row,h.pos,pure,t k,Vals,∀(ps:?g3),a,∀{us:?b4},a,.(by simpa using hb),∀(n w:Nat),a,.(nomatch ?_,?_),blendR,c+1,_,Dc I q ?G,?i u,r+1,qb9 ..,∀(Ae:Bn) (s:Shared) (σ:St) (H:Hp),a,.(by decide +kernel),∀(xs:?a2),a,.(nomatch _,_,_),(1:Int),RelV,noB ps,r<=j,?x ?h,?a6 ?of,qd1.mp,?aL+1,?A e,t+1,kt j,.(by simpa using e),Mat × Mat,?ayu ?J,moveR,#[x,hx],IntMulOk,?auL H b,s l,IsPair,#[h1,h2],shrS,z.symm,?cV ?iP,.type,eval,.(by ext c4),ObjOk,.(by intro X hP hw hK hc i Ae s σ H E I hf st hg;subst hP hw hK),∀(C:Addr),a,∀(a:Addr),a,.(nomatch e1,e2),face,ih ?g,p.isList,i-d,∀(vs:?a2),a,∀(R B:Mat),a,∀(h:Heap),a,?aye w,(i:Int),qb1 hg,?cg+1,i<j,(a:Addr),Same,?I D,qb1 hf,?asv ms,(0:Int),congrArg,.(by ext cI),false,Int->Int,lookI,∀(_K:W.Frag),a,∀{h:Heap},a,.(nomatch H2,I2),r<=n,x=?R,h.zero,?a6 α,?i x,?v=k,?avr ?_,funext,?b9D ?cr,Gr fam w,?a6 Expr,?qF ?eh,Bi xs,base,I.ok.hd hc,?s q,.(by ext ao),Ee ?g,name,∀(t:?aQr)(B8:?dy),a,∀{n W w i:Nat}{G:?eD},a,∀{prog:Program}{w:World},a,∀{a:Addr}{xs:?a2},a,∀(CL CS CW:Addr),a,∀{es:?dD},a,∀(H:Hp)(Q:VK),a,∀{A:Around},a,∀(i j:Nat),a,∀{α:Type},a,∀{D:Addr},a,I.kIn,w+a,p+1,Pv i σ H,.Call,?I C,T k k,Ar.arltk,mulV,k-1,λ_=>0,.builtin,?lg σ H,?A3=?d7,R j ?aF,?b9D ?as,?I t,_,∀(hc:?Eq),a,∀{ms:Ms}(h:?fv),a,∀{lf:?ol},a,Int × Int,(R,B),Good,#[t,?h],?de hj e,?b7K k,?b9T 40,List.range,outer,.(by ext bt),?i q,?i c,[a,b],[?R],Lat.turnL,?cV ?eH,(v:V),?s z,?ag w T P,k<4,s.heap.get?,?b4K Nat,I.tuple,j-1,.fields,"list",?awc ?_,∀(B8:?dy),a,∀(lf:?ol),a,.(by show ?n5),.(nomatch h3,h4),k+i,#[i,hi,?h],?i ?CI,.(by ext bB),r<=i,qd3 _ ?h,bootBuiltins,C0 ne,i-?lq,bookF,Au λgG gH=>?_,kt i,IsZip,j<=i,.ins,i<=n,.bool,i-?aP,min n w,Pv ?k,Value,unit,gH ?_,∀(Pv:?aeb)(h0:Pv 0 [] τ H),a,.(by intro Ae s σ H xs us Q I r h),∀(hp:p<n)(hq:q<n)(ne:?nu),a,∀(x:V)(y:V)(H:Hp)(Q:VK),a,∀{f:?cK},a,∀{v:?J},a,.(by show ?l),.(by subst this),.(nomatch ?g,?g),.(nomatch H3,I3),?s e1,qg3 _ _,?I it,b.2.2.2,qc6 ?_,e::es,A.fdiv B,kv.1,?s h1,λz=>?_,?a2->?FN,?t k,T k c,{ s with heap:=h' },.str,?ko ?aB,?fW Int,call,xs=[?aK],?t n,IsEnum,?A q,?a6 D,?axP D,?rQ f k0 i,(a b:Addr),π+1,zs j,λ_=>none,?I f,?aw6 H a xs,h.inc,(k,v),2 ^ ?Vo,2 ^ β,A p,?rQ ?Gc ?fV i,ks j,Option,Lat.Bits,Heap.SameBut,I.list,.dK kvs,?ip t ?o st,h.low,∀{l r:?bj},a,∀(ms:?i4),a,∀(s:?bj),a,∀{kvs:?gC},a,∀{A0:Type}{S:A0->St},a,∀(s:?aM),a,∀{σ:St}{H:Hp},a,∀(x:V)(H1:Hp),a,.(by simp<;>ext d),.(by simp;ext d),∀{i j:Nat},a,.(nomatch H,I,?h),∀{e:Expr},a,.(nomatch its,r),X.mg,[a,b,c],Bool,I.bare,nd ms,?fW V,?b6V (W ?k m' σ' H'),.bl b,t i,f+d,n+w,Wa.2,?a6 BPart,X.base,fs.getD i 0,Nat->?CP,?vL=?Z,g x σ H' λσ2 H2=>tb ?aee σ2 H2,EP X Ae σ Q,(xs.length:Int),cK ms,?a6 ?a0x,?b2G xs,σ=?K5,R r c,?ip t i ?eY,H' D,?fZ hq,t ?o,?I e,.(by simp at h),W i m σ H,cpos,[it],(j:Int),?A hi,?b4K ?of,p j,.(by intro Ae s σ H x y v u Q I rx ry h),∀{te:TE}{D:Addr}{Q:?ar}{τ:St}{H:Hp},a,∀{G:?eD}{M B0 R B:Mat},a,.(by let ?sE:=_z),∀(ls:?jT),a,∀{ms:?i4},a,∀{s:?cJ},a,∀(ns:?O),a,∀{u:?J},a,.(by rw[Bz];ext d),∀(s:Shared),a,∀{R B:Mat},a,.(nomatch ?h,hq),?rv ms k v,?b9I f,?azx f,?s ne,?i j,?cz ms k,?ow tI,?F+m,?c8 x u,?s h2,?f8 _,qa0 hj,h.old,?b9K A,Str->?jS,?asu a xs,s₁,σ=?Y3,?yi hi,A p c,λx H' y=>?_,keep,?av7 ?_,fs.lookup,(?az2 ?_),?zM=?Z,?b1v Nu,starEach,2 ^ 62,compareOp,H.hi,.(by ext fl),f n,?Dq=?aW,?b34 Jh i,Ne.symm,?i y,true,qual,?iq a,?c8 v u,?i ?aYc,k _ _ ?cB e,spot<=i,∃m,W 0 m σ H,j=spot,?I c,Part,p::ms,?azs ?aL,R j c,∀{A0 A1 A2:Type}{S:?b4k St},a,∀{kt t:?Y}{hd:?J},a,∀{A0 A1:Type}{S:A0->A1->St},a,.(by intro Ae s σ H D I h),.(by rw[?z]),.(by apply ?eX),∀(P:Program)(w:World),a,∀(ha:PA X ?ez t),a,∀(x:?als),a,.(by simpa using this),∀(X:Cx)(Ae:Bn),a,∀{ns:?O},a,∀(w:?O),a,.(by rw[?e9]),.(by unfold moveR),∀(s':Shared),a,∀{ds:?fG},a,∀{xs:?a2},a,.(by apply ?ej),.(by split<;>rfl),∀{n w:Nat},a,∀(D:Addr),a,∀(hi:?M),a,.(nomatch ?h,hlt,p'),.(nomatch z,hd,vs,rel),fam<0,Pv i ys τ H,?atR ne,(ms:Ms),(H0:Hp),?w4 es x1 tpos,G s H,qb4 h1,kindOf,∀v,o.data≠?CI v,?a6 ?ds,?b4K Shared,Ff ms ns,Ca xs ms,p.2.2.2,?aw-1,σ=?Ye,T' k k,r x,?a6 Env,?s e,?cL R i s,s c,v=?R,.Name,Ip ne,.(by ext fm),p.2.2.1,2*n+π+2,downS,?a2I ?bU X.w,"tuple",η+1,?q ?_,qe4.mp,?atW ?o9,vs=?W2,?ef*?ig,?i ?A4,?b7J k v,dets,λk hk=>h k ?g,B9 xs ?aL ?bk ?Cn ?DH ?Gq ?TT ?CM ?CJ i,λ_ _=>rfl,(?dl).natAbs,"int",SameX,_,π+2,R p c,?b4b p0,I.laid,#[_,?h],0<=f,?A h1,_,ps.map,insT,h.get?,.(by have ?aPW:=?aKP),.(by show ?agL),∀{es:?dD}{x1:Nat}{tpos:Pos},a,∀(l r:?bj),a,∀{ls:?jT},a,∀{C:?eD}{δ:Nat},a,∀(fs:?O)(n:Int),a,.(nomatch l1,l2,l3,l4,l5,l6,l7),.(by let ?dv:=ry),∀(us:?b4),a,∀{fp:?cC},a,.(by rw[this];simp),.(nomatch t,a,b,c,e),∀(a b:Addr),a,∀(ws:LLInt),a,∀{ws:LLInt},a,∀(n W:Nat),a,∀(u:Value),a,∀{i j:Int},a,∀{t':Nat},a,a+b,BB.bo,i<?fV,?rQ ?TT ?Cn i,?Xo m 0,h'.get?,λy x=>M x ?jW,m<=n,λq=>?_,?Ii x=?e3,Value.ref,w+c,R i c,0<=k,A q,?avK Str V,Kf ms k,?fW ?eh,?a6 ?g3,?aw+1,VI n f,s y,Pv i zs τ H,2 ^ 9000,w3.extBut,?t _,args,apos,.ret,.Attribute,?aP+d,T i c,?I x,qd6 _,q.toNat,h.red,codeAny,HT.sIx,k+j,r<=w,?azL hx,wk.e0,?QL ?o9 [],#[a,b],r-1,?x h,2 ^ n,"enumerate",qg2.mp,.(by rw[h];rfl),BookAt K C B p xs ls,(?b66 ?_),.(by ext kc),S H a xs,0<=i,[z,TI,TO,i1,i2],False.elim,∀H',?aM->?a7V,?I l,Wd ?bL e,(?Sj).any,i≠j,?au8 vs ds,?iQ+?kK,?y h,value,?b4G o,?s hk,mvI i s r,Sum.inl,?i p,Fu π b r,#[u,hu,ru],?i .local,?b6v h,S0 kvs k,?cD hp,V.ref,?asp xs.length,?ob ?l,R k ?bp,∀{g:TG}{tb:TS}{D:Ends}{σ:St}{H:Hp}(Pv:?CP)(h0:?aKs),a,.(by intro Ae s σ H R I h),.(by show qh9 _ _ hlt),.(by let ?dv:=r),∀(a b c d:Int),a,∀(hr:Ii k ?a4),a,∀{g:TG}{tc:TT},a,.(by cases e:?d8),.(by simpa using q),∀{p:?O},a,∀{n p q:Nat},a,.(by rw[this,Cf]),∀(fam:Int),a,∀(hp:p<n),a,∀{C:Addr},a,.(nomatch its,n,r),.(nomatch a,us,e),?eh->?i5,?b5r t d,w1.extBut,ns.map,?a2I P w,?ed ?hH,s'.heap,β-?iQ,(-q),?b34 EJ j,sg j,?an R p q k,deps ds,Zdr._auto_1,W.findIn,P i j,?cq H H1,I.free,n<=1000,λz=>?G7,2*w+π+2,?asd ?_,Paired,?at8 c,tr T,#[?ht,dd],Ij n lf,?axO i,its',put2,d::ds,kvs.map,.ListComp elt [#[tg,iter,ifs,0]] sc ?H,addS,"dict",K.lookup,e.symm,?aC / g,?t b,hd j,s.toks,Rep.same,qf4 ?f3,Lat.sumN_all0,hlen,?b4b p1,?avR e,h1.1,.(by simp[h]),(?axy ?_),?atH ?g,s.1 i ?gJ,kV k,#[?aE,q1],spot<l,Call_,2 ^ 64,D.nx,items,s.heap.push,?A h2,qn6 _ _,(?oF).natAbs,if i=j then 1 else 0,p::ps,look,?c8 x v,e+1,V->?ar,p0 x0 x1,?b4G e,.(by ext mg),?s e2,I.tok _,?b6S i,?azZ ?b0,"zip",?b0v n,as.map ?kQ,?a6 Stmt,s.heap.IsTuple,?y ?h,below,(i:Nat),?f8 x,cS π i,X.stack,Option.none,b.2.1,?I z,λc=>?a1,IV ms n ns i,?rB i 0,pb b hb,.bl _,Dd ms,?A hk,i+d,λl=>?oF,2 ^ 63,∀(H:?OW)(h:?W4),a,∀(x0:A0) (x1:A1) (x2:A2) (x3:A3) (x4:A4) (x5:A5) (x6:A6),a,.(by subst ex;obtain rfl:u=?ps:=rx),.(by cases ry;let ?aMT:=?eE q),.(by cases ry;let ?aMT:=?fZ q),.(by cases (?aw5 (?kQ a))),∀(mg:?gu)(base:Heap),a,∀(h4:?p8),a,.(by let ?XR:=he),.(by let ?XR:=hy),∀{E:?kl},a,∀(hu:X.A.units+n<cLine),a,∀{ws:LLInt}{fam:Int},a,∀(D:Addr) (H':Hp),a,∀{R0 B0 R B:Mat},a,∀(s:?cJ),a,∀{as:?cC},a,∀{i:Nat}{x:Str},a,∀(ry:?xH),a,.(by simpa using h),∀(r:?hK),a,∀(hs:?vc),a,.(nomatch h2,h3,h4),.(nomatch tv,dx,fs),∀(H H':Hp),a,∀(a b:Int),a,∀{H H1:Hp},a,∀{a b:Int},a,∀{tg:Expr},a,∀{x y:Int},a,.(nomatch q1,q2,q3),T j c,beside_lo,r1.fdiv r2,?awB (a==sysModules),A0->?ar,rawInt,.bl ?hH,Itl K a,(?lO).natAbs,Ar.arz3,qa0 ?g,g i,t σ H Q,qd0 e,c<?aN,htup,h.IsTupleIter,?a6 Key,V r c,Lat.one,(?bi hi).1,H l=?Xj,.(by ext gc),qj7 _ _,Kv ms k n,?x k,Ar.arn44,(?dx).length,ns[i],Itm d o,qh5.mp,(n,k),λ_=>?cu,wF ?Si c,λp=>?w ?d8,2 ^ i,H' b,λ_ _=>False,f<=j,?zy P w,λr l=>?b0f r,∀b∈fp,?HK,K.zero,vs++dvs,?af r t,p::c,qg5.mp,.BoolOp,?x z,k<=j,?awv T ?aF,Value.bool,(pb R t k ?oR).natAbs,Iu R p,?A hj,B4 e,qt1 _,(?Dh).1,[(p,1)],?i _,y=?bT,?i ob,h.IsListIter,lf.getD,p≠q,w2.extBut,H b=?c0,s.TypeIs,fs.getD j 0,?FG j 0,addR_row_ne,a*d-b*c,rv.get,p0 x0 H,Itt K a,I.cell,?b7J k u,sg i,turnL,p.toNat,k<=i,this.1,qe0 hj2,i<k0,field,?b0f l,Value.isInt,(ns:?O),?b7i ?g,Itz K a b,binaryOp,λj=>?v3,?avK Str Addr,qc4 ?g,?b0v k,s1.heap.objs.size,Rows,n-k,putF,?eE hq,2*π,?b50 ?_,Xk f ne,?t j,cM π i,?aI4+1,?b2G vs,I.hok.fresh,Z r c,Ar.arltn,hst.zero,Addr,hs.2,.(by simp at e),w5.extBut,call_meets,?axA ?_,?a6 Ms,?b53 1000,λr c=>R r ?iG,?b0=?XL,(ls:?jT),backTo,(us:?a2),Q c,?b67 k,An c ?tX,?b5 ds,xs.map,r≠p,R k c,Dg xs p,qf8 ..,?a6 ?Pe,(m:Int),b.1=0,g i j,h.lt,?b1v Qz,w::r,∀x∈xs,x.length<=4,?gP+1,λb o e=>?lV,r.get,I.freeC,H.part.inc,insAt,R' p ?am,β+c,B a c,λσ2 H2=>tb { D with nx:=?eg,ct:=?eg,bk:=D.nx } σ2 H2,∀{zs ks:?Y}{Ls Gs:?NP}{fs:?cK}{lp rp:?a4u}{ls:?jT},a,∀(hf:?W (?Wd\/?atg ?kM) ?aQH),a,∀{kvs:?p1}{vs:?a6 ?Q5}(r:?qn),a,∀(x:p0) (x:p1) (x:p2) (x:p3) (x:p4) (x:p5) (x:p6),a,∀(R:?HQ)(vs:?a2)(H1:Hp),a,∀{a b:Addr}{xs ys:?a2}{n:Nat},a,∀(ha:?aWx)(hb:?au2 b tb),a,∀(h:?aT5),a,∀(hf:?N9),a,∀(bb:?aMh),a,∀(R:?axJ H1 as),a,∀{Q:Unit->?i5},a,.(by apply ?a3Z λy=>?_),.(by let#[a,vs,e,q,r]:=h),∀{fs:?jQ},a,.(by apply ql0 ?f3),∀(hi:?M)(hs:?tK),a,∀(R:Mat)(p q:Nat),a,.(by let ?dv:=rx),∀(ok:?Fr),a,∀{k:Nat}(hk:?eB),a,∀(he:?N8),a,∀(fs:?O),a,∀(σ:St)(Q:VK),a,.(by rw[qd4,←hl]),.(nomatch _,_,H1,?h),∀(h:Kx i R t),a,∀(p:?O),a,∀{w:?O},a,∀{n w k:Nat},a,.(nomatch H,?lw,?ik),∀(p:BPart),a,∀{fam:Int},a,∀{v:Value},a,0<=x,?jL a,vs.toArray,?b4b p2,I.ok.kind,.(by ext uJ),?i ps,getItem,Qw ?aA a ms,pl.isList,R ?gn ?aDq,G a c,2 ^ ?fK,λ_ _ _=>False,?b8l p0,-(b*q),T r ?iG,?aLP c 0,lv fam w,(s:?bj),λx a=>R x ?dY,K.inc,0<=?v,p0  x0 H,Array,eG xs p,?asV (?am0*?T7) m,m+d,?ash x d,?v=1,wpAny_callSpecial?_slot,#[_,?eS,?V],slice,qa9 hj,s₁.heap,?tP+i*?fK,h.gc,?awY c,qn9.mpr,{ s with toks:=?vv },f∈ws,?i p.2,#[its,rv,p,hz],?asx p0 x4,A / g,v ?bp,kB n,∀q,?awY ?rc=0,?asO H' s',?v=0,?U xs,(?Gz).1,K.head,JG h0,0<=p,2 ^ δ,?ax7 B7,?av2 ?_,KV kvs vs,?di ?a84,?a9 ?aJQ r,qc4 ?l,2 ^ ?pG,(?jx hb).1,?awY ?mB,v::vs,?lI i ?o ?kt ?dt,s.1 ?o ?gJ,λb hb=>(?sX).1,rule,?YG hj,?cV ?lJ,x.nu,#[?oB,?xX],Ite K a,if p<i then p else p-1,aE n r kt,?s ?G,Ar.arn43,?kI k,x::xs,2 ^ η,ns.getD,?atR e,ms[i],(n w:Nat),Q ?aK H',R ?o c,?rJ [ov] (?TZ ov m pl),Ar.arz3a,holding,I.pin,Itr lo n,liftsB ?be ls,V->?f4,let s:=?Y3;?i0,spot<r,Lat.numAt,#[its,rv,p,_],h.st.lt,?iS h,?asx p2 x4,k+m<i,assign,Ir fs k i,H' a,.Subscript,.(by ext uK),x.2.2,Ca xs c,G i a,p1 x0 x1,b.2.2.1,blendS ?o i x y z u ?dt,Nr B8 _ _,?cP-w,DGet,[e,it],#[q1,q2],?iV-m,(f,first),c<=?gJ,if ?fI=0 then [] else ?b7J ?F (r.1 i),h n ?g,?b4L p0,?asq ha _,dT h w f,(B:Hp),putI,?oK .Add,Se r,AZ n i,d<=?k,?acm/\?a0W,?bq xs its,Gl X x,?i ?IE,?asf A0 A1,h.2.2,?awZ b,?li ?VL,bits,p.dπ,R l c,qs6 _,Cd H vs ps,I.ok,(?b1t x r1),?s a1,?auf a o,A r c,?oU+4,A0->?asf A1 A2,?avK Str Value,?bA ?WE [],?y x,#[t,e],?iV+1,?b9D v,-r2,sp.zip ns,p0 x0,?b4k ?ar,?asx p1 x4,?Yf apos.atName,{ s with heap:=h',toks:=t' },hf b hb,?b6o p q,?cN i j,S.same,λ_ _ _=>rfl,?a6 ?aHP,fs.length,qm9 _ _,?cq H0 H,B4 ?g,kt ?o,?b9I _,scope,#[y,hy],?b6d s',Lat.shrS,AQ s r c,m'<m,?jG ?aG,sc.names,Ca xs D,β2+?rm*?l5,I1.kept,?b0=?Z,Itk d o,vs=?e5,0<fam,b≠e,s2.1,p r,.function,(?b6t e),?b29 ?YQ,eqDs a b,?av5 ?_,"bool",p<?gA,qe0 hj,?cq B H,qa0 hi,?jN=0,#[u,?h,ru],qa9 hi,?i w,?gh+?hC,?ash v d,p.map,Eq.trans,ps.zip us,s<=i,λa=>a=nm,?jG b,?U [],kvs[i]?=?W1,b+i+3+?oU,let s:=?K5;?i0,?ayF ?zb,?Z1&&?V0,qc5 ?g,Ic n f,(?nB,Lat.one),x.2.1,?FG a 0,?y ?ik,h'.IsTupleIter,?A a1,.dT kvs,(?gF).natAbs,st.inc,(n W:Nat),hst.lt,qg6 hk,(?axV R),body,qe6.mpr,∀(hdb:?a3n) (he:?Jh),a,.(by cases (?azS (y=?fy));cases (?aur ?Ky)),.(by cases (?azR (y=?fy));cases (?aur (v=?nh b))),.(by cases (?azS (y=?as));cases (?aur ?CB)),.(by cases (?azR (y=?as));cases (?aur (v=Value.none))),∀(hd:?a3n),a,∀(F:Bs ?bU X.w ?a7 ?fr ?g4 CX k f fd ps sp),a,∀{k:Nat}(hk:?eB){p:Int}(hp:p∈?we),a,∀{sp ns:?O}(hl:ns.length=sp.length),a,.(by unfold nd at h;rw[qd7,qh5]at h),∀{mg:?gu}{base:Heap},a,.(by cases (?azS ?Fs)),.(by cases (?azR ?Fs)),.(by cases (?azS (y=?f8 z))),.(by cases (?azR (y=?f8 z))),.(by show(show False from r).elim),∀(n W w i:Nat)(G:?eD),a,∀{kt:?Y}{hd:?J},a,.(by have ?Bh:=st),.(by rw[move_row];unfold mvI),∀{R:Mat}(h:?awR b R),a,∀{z k0:Nat}{L G:Lat.Mat},a,∀{hl:?jT},a,.(by apply Ag ?k0),∀(Q:?El),a,∀(h:?yx),a,∀(lo hi:?fA),a,∀(R:?HQ),a,∀{b:Addr}{o:Obj},a,∀{n W w r i:Nat},a,∀{q:?ds},a,∀{v:V}{p:BPart},a,.(by simp only[eqD]),.(by simpa using e1),.(by simpa using h1),.(by simpa using hu),.(by simpa using hv),∀{G:?eD},a,∀{fs:?O},a,∀{k:Int}{c:Ms},a,∀(s:?Y),a,∀{H H1 H2:Hp},a,∀{x:?O},a,∀{O H H':Hp},a,∀{us:?a2},a,?s b,nd ns,?b12 h,i.natAbs<?yn,?b00 X.N,Pl X Ae H b,m-1,{ s with heap:=h',toks:=tk },?ash v ?rt,?bo ?cx,ChainAt,?b4L p1,Ir fs e i,R' p ?aF / ?dl,?t a,sumN_cut,swapsWith,H d=?Fm,?cL R i ?o,σ=?a24,?A e1,?gP%2,((0:Nat):Int),.(by ext AP),λ_ _ q=>q,x k*?kT,x==n,.Assign,Ar.arz6,qk9 hc,Ca xs ?i7,J8 O H hd hl,?an P i j 1,b+c+1,?rY=?Fm,Ka H v p,T j j,?ayF lf,h.2.1,VH ?m9,Ci ?GL,?asp kvs.length,kvs.length,?i i,?b8t p0,S1.same,?Cr j a e,?hF ne,?k+m,Ar.arn1 hm,I.base.free,I.len,b ∉ ch,dd.typeIs,?eC b,rp j,qe9 ..,?b5 ys,us++ds,I.kept,"range",YC h0,?b9T i,fam=0,β+?J5,?b0=?zD,?b6d ?dt,?Cv=?kJ,?a9 ?mL i,.(by rw[Bd]),m<=w,spot<i,?b29 ?fa,(?ww).congr,call_meetsIn,D8 ws acc fs,spot-r,?ayI ?Xt K ?fN,Iq n ms,E6 ?By ?yX,Ib A i,qa9 e,callerA,?b4K ?bj,s.1 i c,j<?k,φ ?v,λj=>?dl,B7 xs ?aL ?bk ?Cn ?DH ?Gq ?TT ?CM ?CJ,p1 x0 H,s.toks+1,?b7u ?rK,t ?g0,qc6 h,bindL,h.agr,L+2,"str",Qt k k,.Tuple,h.tab,x1*y2-x2*y1,j<=k,?a6 L2.D,?db (?iI x p) ?ez [] ?H,tr A,let s:=?Ye;?i0,?jm ?be 0 lo,?b0q st j,?auL ?h3 m,(?azf ?_),?b3E f.toNat,β+?rm*?iM,#[t',?h],K.red,c / 9%4,?fU=1,X.env.kindOf,?auL O c,?b4K Heap,st.zero,(?zR).length,λc=>?Ze,qb4 hm,R.free,t+2,?b8x i,pT n B R a b,β+?oY,[b,c],.bl k,c.nocell,qk4 ?_,?asu a ?f9,h1.symm.trans e,?b7K ?aL,(?b6t ho),?aua 2,let s:=?Ye;G s,?C H' a ?fa,?U ys,¬?vU,?t i t,qv9.mp,.Constant,r1-?mu*r2,yE h0,?b3R k T,.(by simpa using hx),?b0R O5 kvs,I.step,ge k hk,?ayu Ms,?bm hj,sIx ?a0f 0 lo,?b4x p0,?atF B7 k,b ∉ ex,JC ?qP H,?b0f j,β+?ig,(?ayV ?_),s1.heap.push,.bl ?cx,t m,K.In ?aA,?U ds,Ek ns,λ_=>False,h.ker,?b4D 1,Fo hq,i<?Cn,ms.take i,?c8 y u,?b7K ?dg,Yc ys t,?s hj,hr.mono hk,?aIj<0,(t:Int),V->?FN,b*f x,restB,4*B,?r-1-k,w<=1000,bs[i]?,?dz n,p+d+1,this.2.1,IsTup,scope.names.lookup,.(by ext AU),?az7 η n,?x e,Ca xs ?no,?k-d,gT m G B,osc.names.lookup,R r x,V->?fA->?fA->?FN,w-k,#[i,hi],X.base.get? b=?Z,?azh H',?ay7 us,Gh xs k,k.toNat,b=true,?ax9 ?_,?asS (?ams*?acr) ?r,λc=>?n6,Ar.arltm,?awS k c,?A e2,a m*U m c,A0->A1->?ar,(l r:?bj),qq4 _,?i a,?at8 acc,?auL H ?aG,2 ^ π2,?azs ?p9,.dK [],σ=?Zj,?Ow ?hI ?sj ?aG f cd,st.red,?avK TE TE,?b8l p1,?b9T 1000,?b6Q u,(?XA).get?,?b2 ?a7 H vs ds,h.st.inc,.frz o ?fa,An ms j,?b2N ?aZh,G j a,?s ?L,a≠D,s' 0,wk.going,R' p c,Gd ws rows,H b=?XL,p'.isList,En w r T' t,(p:Addr),?jf<=i,?azZ A.handled,λv s1 _z=>?_,tr Qt,eqF X H d,?hJ=?Z,v ?aF,?asv ?aQR,qd8 hij hj,Kw xs ys os,ms[i]?,[a,b,c,d],IntsAre vs ns,qe6.mp,qb1 h1,zK ms,?b5 xs,h.st.pos,2 ^ m,(?xV).map,?azs ?dg,π<=8990,its.toArray.size,pos.line,?Yh n w T,?b0≠none,o.data=.dict es ep,x c*T c c,Gp n w r E e T,TM p q,Ii k A,bindC,.(by ext uH),?t (lo+i),blend_row_p ne,pG cap σ,?i ?aO,?I i1,Z0 H H',sc.names.lookup,K.pos,f+m,j<spot,sp.length,?i ?fa,?adF "__next__",q.1=k,(?c9).map,(?jg).natAbs,Ar.arz1a,l.map,?Xo i 0,hst.ge,?iq b,Pm ?iT e,True.intro,(w:Int),x∈acc,?atW ?Ss,jC ws f,n-1-k,Sq es ms,pb R t k m,?b5x 63,V r l,.(by cases h),?cD hm,σ=?Ww,st.lt,?asO H s',tr R,IteT K a,x=?k7,ys[i]?=?hG,r+d,?avR q,let s:=?Y3;G s,i-1-j,p1  x0 H,attributeBase,hl.getD k [],?b8x ?k,?azs ?F,?y ?ne,c≠z,.(by ext uI),qf1 ?n5,i-r,(k:Nat),?I i2,λk=>x k*?f6,model,w7.extBut,?lM*?bR,h _ ?G,?E9 ry,?b3E i,.free,h1.trans,0<?dl,c=true,∀{A0 A1 A2 A3 A4 A5 A6 A7:Type}{S:?asF (A6->A7->St)},a,∀(K:?abK)(h:?afG)(hi:?eR),a,∀(s:Shared) (Q:?kl) (E:?kl),a,∀{X:Cx}{sc:Scope}{N':?bM}{cap:?a6 ?SU},a,.(by unfold insT;rw[?z,?K]),∀(hb:?aKM)(hd:?aW5)(hx:?aeZ),a,∀{A0 A1 A2 A3 A4:Type}{S:?b4k (A3->A4->St)},a,.(by exact ?air;ext d),∀{A0 A1 A2 A3:Type}{S:?b4k (A3->St)},a,.(by let e:b=it:=?e1),∀{Q:?jS->?i5},a,.(by let#[_,_,z,_]:=h';cases z),∀{A B r1 x1 y1 r2 x2 y2:Int},a,∀{n w:Nat}{M:?fW ?Kv},a,∀(kvs:?p1)(k:κ),a,∀{xs ys:LLInt}{os:?O},a,∀{n w r:Nat}{E:Nat}{e:Int},a,.(by simp only[qd4]<;>ext d),∀(E:?kl),a,∀(hD:H D=?hL),a,∀{R B:Mat}(h:?aiN),a,∀{n:Nat}{vs:?dE},a,.(by rw[e];show True.intro),.(by rw[?iE,?iE]),.(by rw[←Bd,←Bd,←De]),∀(e:?vW),a,∀(hl:?jT),a,.(by rw[qa1,?G5]),∀{m:?gu},a,∀(hp:?ot),a,∀(us:?a2) (H':Hp),a,∀{es:?a6 ?GN},a,.(by apply Ag ?PC),∀(g:?yx),a,.(by rw[←rel.length]),∀(h:?fO),a,∀{ms:Ms}(h:?J8),a,∀{q:Int}(hq:0<=q),a,∀{w r:Nat}{R:Mat},a,∀{vs:?b4},a,∀{π b spot:Nat},a,∀(fs acc:LLInt),a,∀(h:?aUp),a,∀(h:Oj xs k ps),a,∀(ha:PT X a tA),a,∀(u v:?J),a,∀(x:?Fr),a,∀{i:Nat}{R:Mat},a,∀{xs ys:?a2},a,.(nomatch x.fr,x.ne,x.sm),∀(l acc:LLInt),a,.(nomatch g,d,tk+1,os),∀(q:?O),a,∀(u:?J),a,∀{l:?O},a,∀{o:?fw},a,∀(ds:?fG),a,∀{n w r:Nat},a,Qv.some_of,?a6 ?ft,(b,o),p1 x0,?b2g ?Wc,qb1 h,t ?a2H,Q v H,one j c,Ar.arn31,?eT x,λ_ z=>?a9d,Sc O H v p,#[its,r',pl,hz],?kI ?v,Sum.inr,Zer._auto_1,(p,w)::?a0A,(?cx,?aHQ),b≠a,us[j]?,N σ' H',r-?k,lo<=n,#[?lD,_,p',_],qa0 (qb4 h),?ayF ?bn,?b9G ?f5,r-k-1,cells.lookup,(?RR).length,s.1 j ?aF,?af _ t,?Jb s'.gens,c.cells ?sD,?cH-n,IteG S a,(t:?Y),∃c d,?a9h,#[#[old,h1],h2],?b0k [],Classical.propDecidable _,lf i ?yd,st.pos,?m0*?hC,?asT p1,?i k,?i (.own a),Ar.arn34,W<=1000,let s:=?K5;G s,?s ?aWy,Aj ne,(x k).natAbs,#[us,[]],(f:?cK),?asq he _,r1*r2,M i i,w9 xs ?aL ?c9 c m,?j _ ?r,s.heap.FunFrames,this.2.2,Ic ?ap v,λ_ _ z=>no z,?dd=0,sc.kind=?t1,wpAny_attempt,#[hz,hTI,#[u,v,hTO],?Q],u=Value.none,Sem ?ft,?x q,?cS t p f s m,qc5 hlt,Co xs lo hi,assignEach,.cell,rp k,(d:L2.D),?asS (TM p q ?ia) ?bk,lp k,#[y,?d2,r2,q2],λk=>?Bv,?ayu ?ax,λj c hj=>?g,(f:?J),.ellipsis,env.cells,?aua 4,?dG l h1 h2,?r4+1,qj5 ?nE,b≠it,Fe Ls _ ?g,?cV ?lz,kvs.any ?PP,Nl R t i ?eV,Good.refl ..,∀b xs,?b2e ?JO ?JO,σ=?a3P,?t x,?asT p2,?b0=?hL,?cS t p ?aP ?dt d,Pt xs k,λ_ _ _ q=>q,Jg ?P,ks k,∀x∈ns,?b3F (2 ^ Uw),?b4x p1,intKind prog w,R.row,?vc->st<?gJ,?Qi/\?aw8 Ej k fd,λb o e n hb hx=>?_,ps[i]?,2 ^ 61,wF ?Ve c,PA X es t,W.fnOf x ?hI (K8 st) ?afD ?Ji ?aS kV doc pm an Dr ct,Aj hb,j<p.length,Qw ?aA b ns,?I j,λb ob q=>?zi,?ayF ?Bl,callWith,?i ?OC,ns[i].1,tr S,?b8G w A,?auL H0 p,.(by rw[h,qe2]),?A a2,s2.bwd,a.length=b.length,?asq ho _,Ls k,env.kindOf,#[xs,xs[i],q,?K2],ys.getD ?cG [],nH t k,Cn hp,n<=1000000,?I A,q _ ?kS,qy4 _,?anj b o e hx,?asx p4 x4,ys.take,((?aEn:Nat):Int),λ_ _ e=>e,?NI ?H ?Yw,a==b,?bp=k,My h2,?avV i,?t c,?j f j,?asT p3,?b7*?ll,?j (λc=>?aR0) m,Ci ?BY,t.lv k hk,Meets,2 ^ bookF,?adl n w M,?i b,I.ok.mod.kin,(?Eh).2,I7.unpinned,(z▸hN),vs[i]?,?mt hc,?b4L p2,2*?Ip,x=?aK,?i ?a4B,λ_ _ x=>x,U k c,?b2m f m,b≠D,?b8l p2,?i ?wj,b.1=1,Ky n w r e T,Fe Gs _ ?g,w4.extBut,?cV ?jw,.(by simpa using hk),?tM=?Z,kV_is,Gq f n,?b7q ?yH,?I sl,Q () s',?axY ?_,2 ^ 8000,?atz (?aF<w),f i c,I.turned,?I D1,P4 xs k n,#[?W2,[]],?ZK k,Gs j,(?Z6).natAbs,(p:Int),?t w,neC b o e hx,lp j,An ?aeQ q,Vis ?OJ x,aQ X sc N' cap,q∈?dx,dg.pos,?t ?aw,?b5r ?gG d,(p q:Addr),?asT p0,?axy (hl q ?I9),(?Vb).2.2,?s ?P,X.env.locals,-y1*r2,ms.getD i (0,0),#[z,?kj,e],qd0 ho,?b8t p1,?ft->?ar,Ir fs k j,?ayW ps.length,?Wq ?k,f<?gA,?auy X.calm,π<=b,u l,qn1 _,p2 x0 H,?b33 D,#[as,a1,a2],λ_=>rfl,?cD h,c≠b,(M:?gR),(p L R nm:Addr),-?a3d,b0<=π,?b6f ?ba,P x,#[j,hj,ej],2 ^ 10,chainB,Dg xs ?cl,2 ^ ?r,R j,?a6 ?abb,‹_›,Ar.arz5a,?atz (?v3∣e),(?dx).getD,?U _,?fU*?Ha,.ad i j n,h<=1000,?b8u h,vs=[v],?asf Hp VK,?b3E j,?eE q',r.drop,.func,?azx ?aj2,?li ?aNA,?cV ?vR,?b0q ?sh j,?b71 ?Ez ?aRP,?b6e ?H s I,w<=60,?iI x ?H,h.st.red,?b9l (λy=>?a05*?Nr),tOp r ta tb,Nat->?J->?aGS,?s y,(K:Int),?eZ h z TI TO ?aS,?i ?aJ4,eqD e d,p2 x0 x1,u ?bx,?m hf h1,?i ?yH,Kp H H',λa=>a=nm\/a=r2\/a=b2,?ayB r c,r.inj r',?b1X H h,y=?aX,(n:Nat),?aCE C ?aG,λx=>M x (s 0),ds.any ?aGX,if ?jE=0 then [] else ?b7J ?cE ((?CJ).1 i),h.bel,.(nomatch h),IsPart,2 ^ e,(lf:?ol),Ff ?P3 ns,vs=[?aK],qa0 ?aX0,?azs ?cE,.(nomatch z),?U ws,(wu:?a2),B9 xs k z k0 L G f l r i,wpAny_loadPart' q1,?A a,#[h1,_,h3],qi0 ?L ?g,(?qS).natAbs,#[_,e,_],if ?fU=0 then [] else ?aeQ,qs3 ?_,φ ?tX,A.deeper,(?iT).length,Shares,DictEntry,.(by rw[qh6];ext d),s.heap.update,.(by unfold cM;ext d),?iI x px,w::vs,E6 ?rs ?yX,Pk n l,b ∉ X.fs,?s a2,#[p,hp,?h],concat_meets,c-w,2 ^ b0,?gt=0,fs j,.dK ?aQ9,lx.nr,qh8 p,?azx f',?aua 3,2 ^ 136,Ci (?atW (r.1.toNat)).length,?ayc ?Kd,?di "len",?b4b p3,"dict_itemiterator",?di id,IsRangeIter,Gs k,qb1 e,?b2W ?m3,#[o',e1],first,?b57 hk,ob.slots,?b5x n,(k,x)::r,?cS t p f ?dt d,p[i]?,#[r1,r2],hp.objs.size,.(by kernel_rfl),λr l=>R r ?aKE,vs=[],Itd hi n,i<=kvs.length,?ayl ?aEV z,subscripted,λr s4 _z=>?_,?I D2,?asC (?F-1=k),qj6 h,(x:V),{ cls:=?e7,data:=?bI ?pt },?asu a us,I1.list,A0->A1->A2->?asf A3 A4,2 ^ Y,?nS=none,?I2 j hj,s.heap.IsCell,xs.drop,?b6n ?Jl,?azB (0<=r.1) (r.1<?gA),It->?ar,?eV+1,Int.mul_pos,(M:Lat.Mat),h.objs.size,?bx<=k/\k<r,hf b hb',?Em+1,PB k a,Ap e h,?a0M i c,λf=>?aym f,x=?aX,this.table,M a ?aF,AQ s j c,?s a,qb4 hj,IsEnumOut,?qF ?GN,β+(c+i+3),β+?kK,?b5 [x,y],h1.2.2.2.1,h c hc,X.outer,?aF<?bp,?F+l,?Pg i 0,?atW ?Jl,?azs 0,Um ds es hl,?at2 p1 x4 x5,ht.typeIs,?azZ X.A.handled,.call,?b4b p4,?aGH t ?o st,hst.pos,?fr x,x.tup,Lat.Shares,λk=>B k a*?VC,ys++[y],bb.2.1,?ay1 hq,?a6 ?akj,?T6-?wx,h.diag,sp vs H Q E,?eb C dx fs,?r*jH n,H' p=?hL,?b9I g,P i a,h.st.zero,?x i,#[?h,?h],p.π9,n::ns,Bi ys,#[o,q1,q2],k+d,sp.map,I1.tuple,#[?cc,e3],#[its,rv,pl,hz],?o5 x c e,A-?f0*B,.(by ext Lt),I.tuple_inj,Ar.arz9,#[e,y],.(nomatch e),blend_row_ne,?atr (?aF<?aN),V6 ps i,fs j i,.(by rw[?Bu];show h),?Pg j 0,X.env.cells.lookup,I.write,?f1=k,?auf D o,p.length-1,lx.nb,NI zM,?cl%2,?b54 n=k,(f k).natAbs,?at2 p3 x4 x5,#[xs,q,?l],?g7->?E8,bl.fin.dg.pos,?q9=0,Fu π b i,#[a,b,c,?h],Kc ys t,I.list_inj,y k i,if r<i then r else ?c1,?asx p3 x4,(?b6t ho2),Hr π b i,moveS,?b4H H D uk,nz ms,(?EK).length,y xs q,sameC,p[j]?,?h9 ?SG,qg7 ?P _,B9 xs ?gP ?fL ?fV ?Xa ?EN ?Gc ?ES ?vM i,?j ?I6 i,Q ?my H,?v∈?dx,qh7 h0,?fV+i,?ie p H H',qh8 z,h.told,?i ?yl,Ar.arn47,?c8 ?lb u,xs++ys,An c,q.symm,#[a,?h],?at2 p0 x4 x5,codeAny_mono,[e,f],?ko WData.int,start N vs,?j _ i,AllBare,i<=ms.length,WData.list ?JY,?A y,H l=none,bl.fin.bl.1,?atv (?Np=?a0p::?a4z),Aq st,?tP+spot*?fK,?asv c,p.1.toNat,?qb+6,LLInt,ls.map noB,(?zJ F).sum,?q1*?zV,r≠i,?aNN h2,2 ^ ?oU*h,h1.get?,?A hr,λu s1 _z=>?_,x=.bl c,#[e,?_],?fZ q',I.base.frzs,dep d,.(by simp[hlt]),?ed ?cx,-?X3,S x0,?A ?L,h.good.trans,-(?aut m ?aDq),?a1E vs k,k b u q,Hp->?asf ?of ?a2,a≠b,?j _ m,R i x,(?b0W ?_),ForInStep.yield,?i ?zP,?b8I j*?ll,S H b ys,?ayu α,p2  x0 H,?b4K A0,qd1.mpr,?asy i j,wk.kl,.own x,Fe zs _ ?g,h2 f hf,?jv*e.natAbs,p0 H,?ayu ?wO,?b0v ?qI,fs.map,?b7d I.ok.bs,us.length=h,?ayl c b,vC S NE a b,?aze ?_,n-r,.(by simpa using z),bb.mono,bl.bG,h.good.rest,?aC∣ ?bR,?t p,?auf p ?Hm,yV K a b,At t u D σ H,?cu+?gP,Ag ?bf,?y ?NQ,s1.heap.IsTuple,hl[j]?=?px,#[?lD,QG,p',_],?b7J k (?e6 z l.1 G i),?bd+n,Lat.Mat,trk h H,?atr (?aF<W),u=?nh b,?rB i (0,0),?a6 ?aHi,?i e,as.length=h,?at2 p2 x4 x5,∀(D:?aMe z a b i1 i2 t1 t2)(gz:?avf ?aA ?aS)(ga:?cQ ?aA a ?z6 ?zw)(gb:?cQ ?aA b u v) (g1:?a20 i1 t1 n) (g2:?a20 i2 t2 m) (e1:?m3 t1 xs) (e2:?m3 t2 ys),a,.(by let l1:=r.length;let l2:=r'.length;let l3:=rv.length;let l4:=QG.length;let e1:its.toArray.size=ds.length:=?hB),.(by have#[ho,hsys,hl,vs,es',ZM,rel,hd',hsz,ex,hm]:=q9 I hz;rw[hd]at hd';cases hd'),∀{kvs:?sc}{xs:?IA}(r:?a8Y),a,.(by repeat (first | rw[?K] | rw[?gj] | rw[?s ne'])),∀(hs:?atv (?b9d [a] [?UU])),a,.(by let e2:its'.toArray.size=es.length:=?hB),.(by(. obtain rfl:=?cs;obtain rfl:=?cm;simp[?qi])),∀{C p r b:Addr}{sv:?fw}{n W:Nat}{s:?bj},a,∀(hN:X.N.Nodup)(hi:?uX)(hx:?a0i),a,.(by let hn:es.size=vs.length:=by rw[hsz,rel.length]),∀{A0 A1 A2 A3 A4 A5:Type}{S:?asF St},a,∀{ns:?O}(x:?aFg),a,∀{z a b i1 i2 t1 t2:Addr}{n m:Nat}{xs ys:?dE},a,.(by show I1.fpOk ?l ?OO),∀(hp:H p=?s3)(sx:?JL),a,∀(k:∀b u,?Ro),a,∀(hn:?b9J ?aOV),a,.(by intro Ae s σ H x vs v us Q I rx rv h),.(by have#[hz,hTI,#[u0,v0,hTO],?Q]:=st),∀{pl:?CC}(he:?a9J)(c:?a0q),a,∀(K:?aBG),a,.(by let ?aBz:=he;cases ry),.(by let ?aBz:=hy;cases ry),∀{kindOf:Str->?fW NameKind}{x:Str},a,.(by let#[z,?kj,hl,e]:=I.lstM hH),.(by show ?GE),∀(s:Qu b H H1)(hb:H b=?i (.dK m)),a,∀{ys:LLInt}{t:Nat}(h:?QZ),a,.(by let l1:=rv.length;rw[qa3]at l1),.(by let#[b,ws,z,q',r']:=h';cases z),∀(hk:?b9J ?w7),a,.(by apply#[?bf,?bf]),.(by let e:i=n:=?g;subst e),∀(x7:A7) (x8:A8) (x9:A9) (W2:sP),a,∀(k:Int)(z k0:Nat)(L G:Lat.Mat),a,.(by(ext AJ)),∀(H':Hp) (i:?qd),a,.(by cases (show ?H5 from h)),∀(hz:?avZ ?gJ ?tB),a,∀(ps:?bM)(k:Nat)(sp:Sp),a,∀(r:?rN),a,∀(x:?ZX),a,∀{f:?aQI},a,∀{k:Int}{m:Ms}(h:?at8 m),a,.(by intro wh Ae s σ H Q I h),.(by let ?RJ:=_z),∀(kt:?Y)(hd:?J),a,∀{a b c d:Int}(h:?o1=1),a,∀(sp:Sp)(dvs:?a2)(E:XK),a,∀{n w r:Nat}{e:Int}{T:Mat},a,.(by rw[Aj (Ap q hn)];show q),∀(he:0<e)(h:?E3),a,∀{R:?adx},a,∀{kw:?sK},a,∀{vs:?FC},a,∀(cap:?a6 ?SU),a,∀(x0:A0) (x1:A1) (x2:A2),a,.(by let ?ajl:=s),.(by rw[?e9,?e9]),.(by split<;>split<;>ext d),∀{D:Nat}(hD:Su m G M D),a,.(by cases hi:?RN),.(by let p:=?avj ?z9),∀(hc:?aHD),a,∀(he:?Sf),a,∀(e:?vd),a,∀(h:?aBr),a,∀(x:p0) (x:p1) (x:p2),a,∀(hGW:∀c,G c->c<W),a,∀(hn:?yW),a,∀(k:Int)(v:?J),a,∀{items:?dE},a,∀(c:?EV),a,∀(h:?kB),a,∀{R:Mat}{p q r:Nat},a,∀{a b c:Nat}(h:a=b),a,∀(f:?cK),a,∀{A P PB Q QB:Mat},a,∀(a:?aYt),a,∀(h:?b2i H),a,∀(h:Hm D H vs ls),a,∀(h:?b86 H),a,∀(its:?b4),a,∀(outer:?iD),a,∀{ms:Ms}{k v:Int},a,∀{n p:Nat}{A:Mat},a,∀(g:Int->?XU),a,∀(h:?tG),a,∀{R B R' B':Mat},a,∀{n W w i m:Nat},a,∀(X:Cx)(e:Expr),a,∀(as:?cC),a,∀(fp:?cC),a,∀(ha:?aWx),a,∀(hl:?au2 l tl),a,∀(p:?ds),a,∀(r:?oa),a,∀{M B0 R B:Mat},a,∀{N:?gR},a,∀{ms:Ms}{k:Int},a,∀{n W w lo:Nat},a,∀{n:Nat}{A:Mat},a,∀{p:?ds},a,∀(e:?aM),a,∀(h:?aET),a,∀(x:?aM),a,∀{X:Cx}{Ae:Bn},a,∀{X:Cx}{n:Nat},a,∀{p C dx:Addr},a,.(nomatch r1,b1,r2,b2),tO B n,vs++[v],Mx e,b2 a ha,?vV<=big,?Jn->?ajq,.ty n,a∈as,hst.lead,qh1 (?b8B ?_) (by rw[hs,hs2]) (by rw[hs2];rfl),.str_bool c t b,isTrue,PySem.W.plainGet,relabel sc ?T,?cD hf,VI k f,x.rback,?au2 e te,∀b∈fp,?uY,?b36 ?Vp o e,λx=>M x (s y0),f j c,?atr (G ?aF),h.ok f hf,EZ X.env.cells ?sq [],Gh _ _,?b8x r,backToKw,?ay1 hx,#[j,hj],(h w:Nat),tI x,?bn j h1 h2,?aYm-?wC,?ayu ?Kv,?y z,?b3E n,NH t,2 ^ ?aX5,ms.length,PySem.W.methodObj,?A e3,?cq H1 H2,qg4 ?P,An ?ajf,?m3 t vs,BP hij hj,?axb e,?s hz,hfresh,?Ci/\?aCf,?awY ?a3c,Fs n w T T',0<=g.1/\g.1<?aw,qo1 ?_,A ?aRE ?bx,aV A j,?b6Z ?f5 ?bT,Lat.addS,?s e4,?b4u ?ez,#[j,hj,?h],QB y c,.int_bool c t b,?cd xs ?aCq ?q8,(?CM).1,R0 r c,?awe n,?a6 Keyword,?jL ?ba::us,QX n d,Lev q m z D L G,(?oq ?gN ?a4z).any,?b6v ?qR,h.skip,?ayh ?k R0,gP i,#[q,e,l],i*n.natAbs,?s ?hw,In.sum,?x ?JU,H b=?awH (k.map kV),?i ?fN,?b9Y Y3 hp,(! ?tS),.str_none c t,λi=>?aMy,?ayA acc l,r=?r4,X.env.scope,let s:=?Zj;G s,?b7t KT,Ci ?a4o,(?aut ?oR c).natAbs,I1.hok.fresh ?l,if ?HV then x k*?f6 else 0,?axO j,?awe y.natAbs,seqIndex_neg,"keys",#[?c6,q],?b29 ?tb,?avu G R0 B0,?i ?R,?b8Q wX,?b0x d,?xg ?v,?atz (?aF=j),Subscript_,bl.fin.bl.2,?b9h v i,Z2 k w Q p,∀j c,?nf->j<w->?a1->(r.1 j c).natAbs<=?a4T,h.2 j v ps h1 h2,?fA->?ar,bk.lev _ _ hps,In.zero,za0 ?_,#[h0,?_],o.slots,?k5 hq,x.same.trans,?nP*?qt,2 ^ ?aLw,?aq ?KF,?cz ns k,?gs l _ ?g h2,y kvs q,envOfC,?b8l p3,.tuple_none p ?g,{ s3 with heap:=s3.heap.push { cls:=?cV "slice",data:=?eG #v[vl,vu,?aS] } },∀b o u,?b2e ?Y7 ?Y7,#[bs,b1,b2],ds.map toI,?b0R Kv ms,?atW ?T1,?asR p2,Builtin.Range.rangeSize,?iI ?vR p,qj6 ?g,T' k c,?avL ts t,?i (?rW ?GR ?T),λi _=>?_,.(nomatch q),?b1l x d,?D i ?a7y,?bR*?aC,I1.laid,?yb*?Z6,?asl wu,(ps:?g3),qg6 h,∀f∈?ck,?qV,?aSv ?nQ,pb.isList,λkv=>?w ?Ik,vs.map,PB i b,(uk:?a2),x1*x2,Gq ?CO j,#[e,n,ne,nf,d],?cd b ?G,.none_list ?cf ?g,id hin,h.push,Ar.arn39,?aN<=W,#[sl,e1],Iu B p,κ × V,seqIndex_of,p.getD,#[r,t,OS,hst,hz],(0:Int).natAbs,Lat.mulV,.str_tuple c t p ?g,-(B / g),(?awL tc (?b8k ?aMU ys)),j-?aP,5*k+k*k,?azL hGW,Data.fields _=Data.cell v,qc5 hi,#[its2,r2,p2,_],x.2≠NameKind.cell,qi1 hb,?bk<=40,?b1l v e,WData.weight,y1-q*y2,(?vX).1,e≠it,?asc (x k*?ag w T P k ?cH) j,Cls K C,this.2,vF i M,?b7t κ,qa0 ?ahn,?atq (?gJ<?am),let #[q,_,_,hq,_]:=vJ;#[q,hq],?gl=?aW,λk=>x k*?oy,?auf D ?tN,c≠i1,?s x2,(?ck).map,List.range',?k+Y+2,#[u,r,l],noFill_tuple_add,λb=>Xz c b*?qt,#[?h,?_],(?rM).getD,#[a,b,c],?cd a ?G,g.1.toNat,?azZ o.dict,?b6n ?o9,R.same.trans,Rd H b ?aQF,.tuple_str z t' p ?g,qe3.mp,i==j,#[k1,g,d,tk,os],qi5.mp,sq.flip,?cG<ys.length,w.length-1,(1:Int).natAbs,hl.getD j [],?atr ((B j a).natAbs<=2 ^ j*m),Ag ?aCT,h.s0.inc,(L r ?t0).natAbs,twH ps,Qy K fd ps [],?b4x p2,J.go i H,?YG hi,.(by rw[qa6,hb];rfl),#[?aa,q2],?Wq i,(?dd).natAbs,λr x hr hx=>?_,?t (hi-i),?C H4 D (?U ?I7),?rZ o i ?H,tnA t,?an B q p (-k),letOwnedTupleGo,?i ?aL,?J6 i ?o x,?b4k (A3->?ar),(c:Ms),T i d*X d j,B.fdiv r2,I.ok.bsz,X.s₀.heap.get? b=?Z,let s:=?a24;?i0,p∈?dx,?db (?iI ?vR q) [a] [] pos2,?asc (x k*Sw n w A (U k) q) m,s.1 j ?FV,Int.lt_trans,KN T s k,acc++its,stored,?atR h,setItem,?asU (a j*U j c) m,?ast (?aZa*?Vs) m,fs.findIdx?,(?b1t vs r1),L7 lf ps,X.pn++Ae,?awe ?b7,i<vs.length,?asu a ?jV,ha.typeIs,An ms ?v,?atW i,wpAny_standAt,?ayC (?oq ?H ?Np),os.map ?aB,x.lback,2 ^ yR,Zir._auto_1,DK kvs k,λr x=>?_,Value.int,tb σ H1 Q,?avM EuA r2,?aun o,r.take,?b4t hi _ (λv s1 h1=>E6 h1 λitv s2 h2=>?_),?b7U e,?b7K ?cE,?avL ds d,∀f,Qv ?a1e (mA f),?i ?aW,#[?ahs,?V1,?hs],c<=k/\k<r,[?aX,?oX],?zM=?c0->?tM=?c0,λc xs q=>?aG3,?I r1,?asO H ?sW,h.detsD,operate,Vo xs i=?aW,Er K C f,D->?ft,?ayI W.isFn K ?fN,λi j=>?SP,p[i]' ?aWM,?awm ?vN,JO b.kz,if v<0 then(v+?aw).toNat else ?af3,.(by simp[Ek,eqDs]),?ag w R ?qB,values,D j j hi hi,σ[j]?,(?gh).natAbs,?A h.symm,?aut m ?am,?avV lf.length,.bool_int c i t,f ?r,#[v,H,I,r,h],∃t,u=Value.str x t,.NotEq,k b ob q,?b47 [(?q8,1)] 1,x∈?OH,Builtin.Dict.samePairs,?b70 ?be,?b2P e ?A5,?asV (v a*QB y a) w,?b47 ?no 1,if j=i then 1 else 0,?b6m ?b9,qk2 _ _,Reps.same,?asR p0,?fW Nat,?A ?G,JA ?bL eb,Ci n=((n-1:Nat):Int),(?b81 hk),if q=p then 1 else 0,?a4P hj,G8 X sc N' C s₀ H₀ fp,?b3E k,(?vZ).natAbs,p3 x0 H,?b33 e.natAbs,{ cls:=?cV "dict_items",data:=?eG #v[?I d] },?i M',An ?rf,?oq ?H ?a4z,A.units+1,qa0 ha,Fy O H vs lf,?q ?ey,.int_str c t z t',?i ?bT,Builtin.Slice.slicePlaces,ds++[d],(?Eh).1.toNat,?I r,?b93 b c,(?Uj).In,?rv _ _ _,R i ?bp,?avj h.ge,?b4L p3,.str_int c t i t',q.1.toNat,?c8 y v,Vt os t,Gr fam v,ys[?DL]?,sIx ?a0f ?a0f hi,B a c',f p-g p,?b4f k,y1*y2,#[?Q,h3],eqD d e,Fd (?asC (l≠spot)) ?WK,.(by unfold Ci;ext bB),?b33 x,x1-q*x2,?i ?aHW,Nr B8 k v,.bool_bool c b,#[c,hc,h0],(?rh).n,#[kvs.length-?k,?V1,?hs],?aB 0,a<h.objs.size,.(by ext AC),Pk z ?a2S,(?vD).2.2,κ*D,fs k,Cc (Cc R j (R ?a0)) ?a0 ?FB,BO n W s,λx a=>S x (n+a),#[a,b,c,d,?h],#[kvs,kvs[i].1,kvs[i].2,q,?K2],getMethod,.int_none c t,q _ hf,wpAny_Name,B 0*?Yb,pyNext,λc q=>?aG3,jH n*?jv,r=spot,#[?my,?fo,q],if ?g5=e then ?uf+1-?Dt else ?uf,(?sH).natAbs,B≠0,Obj.mapSeq,C7 ?g,.list_int i t' ?cf ?g,?awo zc0,?az2 ?g,#[b1,b2],seq_tuple_add,#[p,eA],#[q,hq,?h],.of ?_,∀vs H Q E,?ID->?En,(?li ?ZY).objs.size,Ag ?Yx,?asp n,λj hj hne=>?_,?ei ?zo i d,?iN ?fb i ?sl ?k,.(by ext a5t;ext bB),.(by rw[q];simp),.bool_str c z t,?CH es ?T,λk a=>rfl,?z8 x=?eP,?je e f ?H,ql7 ?g,_::_::_::?bH,?k*?QG,let s:=?Ww;?i0,(N:?gR),h.partOf,kP ?Jm ?ef,2 ^ fD,p.length,"__ne__",?ed b,?b5L ns,(! ?TC),ws.toArray,Gq g n,?I b2,(-r1).fmod ?sQ,P.zero,Kp H H1,run d hd,(?cx,?a8Q),I.lset,?k5 hq',ChL.ch B8 _ _,PS X st t,c≠i2,2*bookF,2 ^ ?Kd,λy=>hne y.symm,#[q0,q1,q2],.tuple_list p ?yS ?g,Kv ?hE ?g5 ?ry,zI->Int,?b6E t ?km m,(hi-lo).toNat,K w.params,2 ^ d*?Yl,?awT ?gl ?aB,#[w',hw,rw'],qc0 _ hb,p.2*?vr,?b3d p1,Pm [x,y] e,(sizeLine:Nat),I.turnedN,λk c _ hc=>?Dr,s₁.heap.Ns,λi=>?mF,shL i j g b f l,?Kv->?aGS,λc=>c<W,∃q,?jG a=?e2,?b11 ms.all ?ai2,.(by ext kW),?b3d p2,JS ?SI q,h.prod,tPairs,?b4a y2,Dd ?sR,?iQ<=β,Ir q f n,?asf Int Int,?b62 ?d5 j c,R k ?aF,λk=>?OP,.bool_none c,h.st.pg,?cL B i s,?g5=k,?aHH i c ?l,PF B8 _ _,∃a,w=[a],PySem.W.emptyDict,T9 lf p,?D i ?aPc,Nat.min_eq_right,(t:Tn),?b4D 4,-x1*r2,?j ?ann m,?avj ?qh,Int.natAbs,n+b0<β,(eF▸hi),(?CM).2,"__eq__",f v u,.int_tuple c t p ?g,a2 a ha,?asc (?J1*?HY) n,ys.map tI,An ?aP0,#[m,hn,hl],?n1 p,#[a,b,?h],(?Cj).1,?b9h ?a3p b,λxs ys i=>?vT\/ys.length<=i,1-?Dt,#[o,ho,hd],?au2 e t,?oU+1,I.base.keep,t1 j,?t ?zP,?o8 z PB L j c,h.pv l ?g h2,#[?Q,?eM],R i ?jM,if c then A else B,(?sL).length,R1 r c,LT K H v xs,#[kr,ht],?i ?fQ,[?R,?bT],Lat.beside,?asj ?o R B,f q-g q,ql3 ..,po x x1 x2,.list_str z t' ?cf ?g,(?vX).2,λx1 x2=>x1++x2,p x0 x1,?b0k ?mI,U m M' l' r',f.toNat,X.K=K,s₁.heap.get?,its.toArray[i]?,?avG p0,Paired.length,?asC (l≠i),qs0 m0 m1,p3  x0 H,Lat.ChainTo,.same _,qb4 hk,.(λM' e=>by cases e),?t fam,PySem.Within,#[c,hc],h _ ?uw,?gH=?hL,?cL B i ?o,?atW q,(?b9Q (?b7E (eb b o hb e))),y.length-1,(?kp).is,C=CL\/C=CS,H2.objs.size,?b1G X.fn x,qt3.mp,?b8j p0,W.codeIn K Dr ?hI=true,M k ?cH,#[a1,a2],?ast (?b4W (?a2k*R l ?jM)*RB i c) n,?b36 ?Zd o e,n<=60,-?aw<=i,qp1 le,bE I hg hm ?_ hdb,"dict.update.loop",ns.take,x2*r1+?VR,λ_ _ _ _=>rfl,hd σ H pp,?avR ?eS,qx1 _ _,?awu S,I.base.tbls,Value.type,?I g,EY.zero,?v<?gA,p.2.natAbs,b*?bR / g,∃t,u=?Ra i t,(?gt).natAbs,PA X [a] ta,(?dx).zip,(a hd la:Addr),b::rest,zt5 ?aA a b,wF ?aAD c,i.toNat,Heap.IsTuple,#[λj k _=>?yG j k,λj c _=>?IJ j c,λj _=>?ym j,λk j _=>?Fa k j],An ?ku ?ny,?aNt ?kp,"StopIteration",β+i*?oY,U m M l r,?ase hb _,?i ?YQ,?b4k (A3->?asf A4 A5),ws.map tI,?j ?a3i m,id I.loc,getAttr,#[a,vs,?h,q,r],#[f.2.2.2.1,f.2.1,f.2.2.2.2.1,f.2.2.2.2.2],qu6 _,Int->V,?b5r t 0,h.st.s0,kk c o hc e,h.Ns1 dx mA,?b47 D D.length,Ls j,?s ?amt,boot_range,Pi n p,x m*U m c,?b7D ?_,?b7P x ?bR,h.col0,λ_ q=>q,?i ?qf,z-k0,(?kT).natAbs,?m bl.zm ?Y8,λa c=>?afk,sp.getD,Q ?eN,{ s with heap:=h',toks:=?vv },?ath ?wo r2.natAbs,α->Int,W.keepIn,H la=?PJ,I ?o s',?asF (A6->?b4K A7),.(show ?b6r ?C5 j=v j by rw[qa1,Ve hj];rfl),.(by ext AF),Builtin.SmallTypes.nextOf,.(λz=>by simp at z),Lat.insS i ?o st s',hst.inc,?b4b S,?Mz hx k kr v0,.none_bool b,?s x1,?i ?aB6,?m (?ayq Et) B8,Ag ?h4,s.eqv n ?l,.(nomatch hf),?di "any",s2.heap,?b33 y.natAbs,Or.inl,Ar.arn17a,qg6 hp,qs.map,Nat.log2_lt,?iS (?aQC b z),.(by rw[x.1];show hi),Q3 ws fam,c.foldl,imms ds,∃a b c,w=?fs,.dK ?gB,n=?id\/n=?t6\/n=?w2\/n=?iP\/n=?eH\/n=?lJ,?b47 ms ?NU,2 ^ ?Pn*μ*?aT,?aw6 H b ys,pa.isList,.(by rw[qc3];ext d),(?og b ?aS5).trans,Nl R t i r,JQ n w i j f l r,#[its,r1,p1,_],tO ?a33 n,?b6Q v,(?jx hp).1,S x0 x1,standAt,behindInMarks op b=false,Straight,?I5 ?aC ?bR g a b,(?ww).mix,shF i j g f,?aKH+1,Ul hA hB,H4 D=?E1,?ay2 i v p,x k-?ZV,?aZl i,N'.zip cap,?b8t p2,.(by ext Ag;show z),#[od,J,hl],.bool_list c ?cf ?g,keywordEach [] ?T,λk _=>?_,rJ ?bL e,Ec e c,?cV n,ms.length==ns.length,ql1 _ ?Vg,#[?mr,q4],?au7 ?a8S [],X.wish E,?a9 ?mL j,?b5W H u (ZN t),?asc (a k*?b9K (?b6Q (U k))) m,(?og b (?b52 ?n5 (?awC I.ok.cab x hfn))).trans,(?aEX).getD,qe3.mpr,Dd (?X7 ?C5),Paired.mapP,?j ?zx m,λe=>eqD e ?aIB,n≠1,?j f a,?i (?U us'),∃xs,?a7C,xs.take,(?vM).1,b.fin.il,(hl:?jT),its.toList,?bL p _ hk,qe0 h2,λ_ _ q=>?zi,.bool_tuple c p ?g,r1≠0,?auq (0<f k),if k=j then 1 else 0,h.objs.size<=a,LX H C p r b sv n W s N,{ cls:=?FU,data:=?eG #v[?t lo t,?t hi u,?t 1 v] },I.base.tups,0<need,∃xs,?aMR,λy a=>R y ?dY,I.base.slot,a*u c+b*v c,?aBa L7 lf,?bw R ?o i x y z u,?EA+?hC,?s hne,?asx S x4,?b8C ?GA,i-1-k,(n,NameKind.cell),?k*(?k+?qQ+2),?b2d e,?afT->?jG c=?Z,ds++Xr ?a4o ys,?b4a y1,bs.map,J9 W ?aS4 st,#[n,?G,?a5,h0],mE ?bL e,blw k λj=>?aii,?auk (?jE=0) ?ad,x∈?vg,?bw B p q d (-c) (-b) a,w6.extBut,aX ps,x.keep,preSum,Rep.inj,?avl ?a3Y,s'.os=s.os,0<=?VC/\?VC<?dl,nd ?iL,#[T',s1,s2],P.zip vs,O5 kvs k v,z<=40,h.back x hx,Pj.new _ _,(n,NameKind.free),?b2U q,?asR p1,?auf x o,?ag n S ?TW,Q y,JB ?bL e,(?vM).2,.none_tuple p ?g,?fW HO,mA ?dL,K2.st.good,Jx ?rM c,its.length,?tZ j t ?r,?asO H ?f7,qk9 hr,q.1<?gA,#[ok,ov,hit],?b6S k,.list_bool b ?cf ?g,(?bi e).1,?ei e j j,?di "all",jH i*?aT ^ i,Zkr._auto_1,items.size,its.toArray.size*k.toNat,.(by rw[qb6,qb6,h0];rfl),Loc ?OJ x,qk6.mp,#[k,hk],En m z L p,?awT ?tU ?aB,Jv kvs more,?t ?aC,(?cx,?lt),Cls ?a7 C,?awY m,?nx ?R ?lJ,ys.length<sizeLine,ys++[v],GA lf,?xe<=r/\r<i,Key × V,min v ?aw,?wG=?e2,Dd (IV ms n ns ?amx),?b4Q ?o ?rg,?Ic e2 e3,.tuple_int i t' p ?g,?a6 ?fw,?b7c D i hi,wF ?Si ?oz,RI e,∃y,?b3E p.toNat=?hG,qc6 hQ,?nR*μ,ls[k.toNat]?=?px,Builtin.Int.intBits,env.cells.lookup,valueAt,zz+π+1,x∈ws,?ag n (λi j=>u1.1 j i) r.1,.list_none ?cf ?g,#[v,z],.FunctionDef,?s e3,#[o,e,ex],qk5 _ g0,qz7.mp,λy=>Pm (?atW y.toNat) q,?a9 ?oL k,Lat.blendS,g.sq.row0,?s ?RE,λx=>M x x,T8 t B8 p,?auy ?T9,?aw6 H' a xs,kk b ob hb z,L j ?t0,#[i,?aa],?b0v ?r,?C H ?aG ?Hm,u.keep,?h3 f,List.foldl,λi j=>s1.1 j i,?vH b o e n hx,?a0j hp,qf9 _ _,?aVA hjk hk,(qe5 _).symm,?aCE C dx,(D:Addr),?b33 q.natAbs,Pk w r,#[o,_,ho,_],?cD hb,?v8/\?mv/\∃vs,?qn/\h.DictOf ?kp a vs,QV f k0 z,#[v,r,?h,?Q],I.ok.above,qf1 ?Ej,A ?J2 ?bx,eqDs_refl,?fW Expr,s.heap.IsTupleIter,#[o,e,c,d],pyIter,?b7M ?b9,?asT S,qr3 gt,H1 a=?s3,if ?al8/\f ∉ acc then acc++[f] else acc,I ?o s,?azZ ?I3,mainGlobals,ws.findIdx,xs++[p],tupleKind_room_in1 hu,.str_list c t ?cf ?g,#[_,e],?au7 ?a8S ?ez,if l<k then l else l+1,mixKind,?b3d p0,λp _=>?_,pT n B0 M a ?aF,?t ns.sum,?cV T,h4 x ?vm,qr7.mp,?Te ?ew,?w (x=y),(P,PB),IsRange.new ..,h.plus,k0<=z,sliceBounds lo hi ?aO n,?JB ms ns,?nP / b.1,?s hb,typeIs_int,(x,NameKind.free),J.stop i H,?a0F∈sc.names,λk hk hne=>?_,?b9B ?FX,if w∈ws then ws else ?a3Q,?azx _,?rS j hj,H c=?Z,RB l a-?aS3,ys[m]?=?e2,(sv:?fw),.none_int i t,?w (a=b),#[f,hf,?h],Un.kept,λ_ _ z=>z.elim,#[_,b,eb,hb],P' x a,?atR q,?ax1 Q I,?a6 ?a1z,?auf p ?ado,I2.thaw e2 hb,H p=?Xj,TP X Ae σ Q,Cd.put,?b6m ?p0,λr=>B ?c1,r-?bg,?azk A,hl i σ H hi pp,.int_int c t i t',?df w B ?a3p a,Same.new,Q ?eN c,?a47 x 0,Pm fs e,(qb1 ?P).symm,BindsTo,A58 h0,wpAny_typeOf,FnScope,?b6l D,?eh->Sem ?eh,?pC x c e,?axj R v,ys.getD t [],k5.objs.size,.(by rw[qq7];simp),?at2 S x4 x5,ws++[w],x.right,?I L,qv4 ?q0 ?_,?auC C,s.free,r2≠0,q.getD n 0,Q y c',qu0.mp,?cz ns j,?atV R' B',?b0i i,?bR / g,?asC (?v0=(c+b)+1),?a7p i,?awC h k hk,?o7*φ ?g5,λk=>x k*?Dx,?asc (?HY*?xv) n,?oS f v fs,.int_list c t ?cf ?g,o.cls=?cU,?b5j "__debug__",.str_str c t z t',Q i,t D σ H,?b4M Dr,c.kind,.list_tuple ?cf p' ?g,#[y,?d2,ry,q2],.tuple_bool b p ?g,?pE k y xs,f k=g k,A57 h0,?eb C dx [],c<?aF->?hU=0,?azT H' as f,#[o,ho,hc,n,hd],ps++[p],k b o (λz=>hc ?aD7) e,#[cls,dd,data,sl],(PY n).map ?aB,(?xI).getD,w.drop,X.H₀,?I ?ba,{ cls:=?e7,data:=?bI ?bO n },(zt4 ?aA a b).objs.size,Lat.downS,Qt k l,j<=spot,?t 0 0,.(by rw[Jw]),?cl+1,qk1 hj,#[u,?cc],#[ps,hps,e],hb.typeIs,?asU (?PI*?aOw) i,wpAny_letGo,Ar.arn3,ZY i j g a b f r,λb=>?Oq,qu9 h,2 ^ b2,beside_hi,PB j b,tn i ?aA,(O:Hp),zt1 ?aA t,?nN::r,if a=b then 1 else 0,(?bi hj).1,?cS t p f s d,?di "sum",#[v,q,e,?Q],.(by simpa using h2),?b8Q x.same,x.left,.bl ?aSf,.(by ext a5Q),#[?aa,h],base.Ns ?a2A mg,?I la,?i M,ds.length,(ms ns:Ms),2 ^ (z-2),(?Kz).1,?a2->?ar,?a9 ?oL r<=E,?ayu ?bj,β+?aRO,k b o hc e,.none_str z t,h.st.next,?b4u es,Pk w (Q,QB),π+zz,λp=>?aXS,?asF (A6->A7->?ar),#[u,v,?h,rx,rt],sc.names.all,?b8x ?F,d0::ds,Or.inr,dx≠x,d.name,i*D<=?aT,?awm (by rw[Bd];rfl),qo0 hc _,∀(hs:?b9f (g ?aK τ ?Kk ?aXT)) (hd:?aAK),a,.(by rcases W3 h with⟨h0,⟨a,rfl⟩|⟨a,b,rfl⟩|⟨a,b,c,rfl⟩|⟨a,b,c,d,rfl⟩⟩|⟨h0,rfl|⟨a,rfl⟩|⟨a,b,c,rfl⟩⟩|⟨h0,rfl|⟨a,rfl⟩|⟨a,b,rfl⟩|⟨a,b,c,rfl⟩⟩),∀(hs:∀i x σ H p,?dk->?avx ?aQY) (hd:?aht),a,∀(hs:?atv (?b9d ?e4 [?UU,?BM]))(hs2:?atv (?b9d [b] [?BM])),a,∀(hch:∀b∈ch,?aAY),a,.(by let I1:?aO8:=?vQ (?avb (k b o (by simp;show ?zt) ?lV))),∀(ht:?awb PTs ifs tc) (he:?awb PE elt te),a,.(by rw[?b2V (?oS f v ?Gy=(if k=f then ?fQ::r else(k,x)::?aYp))];cases hk:k=f),∀(st:?a0l)(hB:?a9S)(b2:∀q c,q<m->?a1->(B q c).natAbs<=2),a,.(by(let t2:?ip t i ?eY i=?eY:=?TP)),∀(hst:?Jh),a,.(by rcases this with z | z;{rw[?b1,z];simp};rw[?z,z];ext d),.(by unfold Ay;rw[?z,?r6,?z];rfl),∀(ge:?auv ?aA j n)(gj:?aKg)(gt:?Na),a,.(by apply(?avz n ?ec ?Zu)),.(by let D:?b1L ?amE:=h),.(by apply qu3 (pl:=pl) ?aLY ht),∀(hs:?W (∀x,foldedSetIterable iter ?T x=?bo x) ?RX),a,.(by(let hl:?atm ?C5 ?nJ:=?a4H)),∀(h:?O0)(tw:?ata (?b99 q (?df m D ?akv x=0))),a,.(by rw[?z,?z,?z]),∀(h:?atq ?aK2),a,∀{x y z u:Int}(e:SN π ?aGj ?aCb x y z u),a,.(by let#[σ',H',I2,e2,q]:=hq;show#[σ',_,?a2y,q]),.(by intro Ae s σ H x v vl vu lo hi sl Q I rx hs pl pu h),.(by let h1:=?ahJ;unfold Kd at h1;rw[qc2]at h1),.(by rw[qb7,qf2];show ?b5w h1 h2),.(by show ?ayR x0),∀(hg:?awb PG tg g),a,∀(hl:?auN ?lx ?gv),a,∀{ta:TA}{p pos:Pos}(hg:?aEk)(hm:?a89),a,∀{x:Str}{ps:?bM}{j k:Nat}{sp:Sp}{p pos:Pos}{e:Expr},a,∀{i:Nat}{T:Mat}(h:?b64 i (r<c->T r c=0))(s:?Y),a,.(by let ey:?iT=y:=by rw[qa1,hy];rfl),∀(hG:?ayx (r<i->G c->?acy)),a,.(by let(?b1r I):=h;show(?b1r ?ai7)),.(by simp only[eqD];cases hl:?aPL),∀(hq:?b1J ((Nl R t i k).natAbs))(hi:?M),a,∀(A:Around) (outer:?iD) (s:Shared) (H:Hp),a,∀(e:?b0=?s3)(c:?a0q),a,.(by let e':¬?zF:=?SM),.(by unfold mvI;split;ext d;split;ext d),∀(dg:Iz z w k E ?xf P PB Q QB f),a,∀{C:?eD}{R:Mat}(h:?b1W b R),a,.(by rw[←Bd];show ?atY ?b9),∀(hg:?s2)(hm:?I3=?i ?dc),a,∀(hu:?afb<cLine)(ho:?aXo),a,.(by cases hk:?a1W),∀(hu:?anO),a,∀(x:V)(lo:?fA)(hi:?fA),a,.(by rw[←Bd];show ?aub ?vN),∀(hq:q<n){k:Int}(hk:?aNh),a,∀{x:?cJ}(h:?asM β x),a,.(by intro hd;let i1:=?ce),.(by let ?BH:=?oT),.(by let ?amz:=h),.(by rw[?aAW]),.(nomatch I.os,?fu,I.base,I.loc,?o5,?l2,?pC),∀(x:?aNr),a,.(by let z:b=it:=?e1),.(by let ?tC:=?rx;cases ru),.(by let ?aFL:=?rx;cases rx),.(by rw[?O8,qg0]),∀(D:?aMe z TI TO i1 i2 a b),a,∀(hn:n=min ?be ?a7v),a,∀{ms ns:Ms}(h1:Dh ms)(h2:Dh ns),a,.(by let ne:spot≠i:=?g),.(by let#[c,?h,q1]:=q1;cases r1),.(by rcases ?a1i with h | h),.(by show ?ase hb Q),.(by unfold B7;rw[qk7,←I0];rfl),.(by unfold lev at la;simp at la),.(by unfold lev at lb;simp at lb),∀(σ:St)(H:Hp)(Q:?ax),a,.(by have#[f,fd,?Q,h3]:=h.ex),.(by let e':¬?hu:=?g),.(by rcases ?rT with e | e),∀(A B r1 x1 y1 r2 x2 y2:Int),a,∀(h:?axG n G),a,∀(spot i:Nat)(A B g a b:Int),a,.(by let e:?wk:=?g),.(by rcases qj3 i k with z | z),∀(b:?aTD),a,∀(ho:Vr X (?h9 op) r),a,∀{fd:FuncData}{ps:?bM},a,∀(hn:?M)(hp:p<=spot\/p=i),a,∀(hok:?b0J H' h'),a,∀(k:Nat)(y:α)(xs:?d6),a,∀(ms ns:?i4),a,∀(rd:?t3),a,∀{T Qt:Mat}(s:?aeG),a,∀{T T':Mat}(s:?Nh),a,∀{c A B:Prop}[Decidable c],a,∀(hz:?aOW),a,∀(tp nm r1 D1 D2 b2:Addr),a,.(nomatch zs,ks,Ls,Gs,fs,lp,rp),∀(G:?eD)(M B0:Mat),a,∀(P:?b2m ?aP i),a,∀(prog:Program)(w:World),a,∀(sc:Scope)(N':?bM),a,.(nomatch ?aG,[s.heap.objs.size,p],[s.heap.objs.size],?yr,_,_),∀(K:?abK),a,∀(ns:?i4),a,∀{mA:?gu},a,∀(kvs:?gC),a,.(nomatch oc,od,kV,doc,pm,an,Dr,ct,osl,?h),∀(hu:?Sk<cLine),a,∀{z TI TO i1 i2:Addr},a,∀(i j:Int) (t u:Tok),a,∀(gx:vs[n]?=?d7),a,∀(h:SqT ?a7 H a xs),a,∀(hA:0<A)(hB:?Tl),a,∀(hn:l.most=?i n),a,∀(hij:?co)(hj:j<m),a,∀{b p spot μ:Nat},a,∀{ys:LLInt}{t:Nat},a,.(nomatch ?h,Walks.list ?a7D ?aG p ?_ ?bO,#[?qM,?_],?_),.(nomatch rx,a,C,dx,fs),?b5o p ys,p*f x-q*?aC,?aum (f ?wl (?t j u)) E s,PY ?be,SqL K H1 a xs,show ?azZ X.A.in1.handled from hh,#[u,?z1,e2],Ar.arz2a,?b99 k0 (0<f x),H1 p=none,spN xs k i,?b0v ?ae,E5.start,sIx n n hi,?qj/\?t7,e.key=?abT,D8 ws acc ?ck,?atm ?vP ps.length,λys' τ' H' p'=>?alX,#[?be,?G,?a5,h0],qc6 ?ey,#[_,h1,λv q=>by ext aqk],.(by simpa using hf),?b9D ?my,wpAny_pyNext_list_end,Y8 H ?tL a,H hd=?hL,?a9 ?vs r,(?a4Y).push ?aWj,cK ?gg,?b3m p1,.(by rw[eA];show ?a1N),?ag n ?zd Q,qh5.mpr #[qj8,qr8],#[z,?et,r3,k,e,q3],2 ^ kB ?fL,?asz ?aAZ,#[B,hb,gb,lb,cb],i<l.length,Gq (a 0) r,?ayr zB,(x / h).natAbs,{ cls:=?e7,data:=?bI its'.toArray n' },xs.eraseIdx,.(by ext ar9),?j ?aYr ?fV,?an R i ?o ?kt,Q (?t ?p4 ?lP) ?qU->?a7A,?J->Int,ys.length,λh3 i j f g q r hij hj hi eq er=>?_,qc9 h2.2,lN V Z k,Er ?a7 C f,Nat.le_min_of_le_of_le,∀[?gd] [?j8],?a3E s fd #[[u],[]] [(x,u)],.(by ext anx),(M r c).natAbs<=?Ga,"isinstance",wpAny_assign_Name,?zI r0 r1,?awu p0,λc=>?VS,?auL ?fr ?vR,?lG (?avq (?f1,y)),k2 ?aP ?l,?auf a ob,λz=>?a9d,.(by simp[valueAt,qo9,e']),?qT (?hF (qf1 I.big)),λw=>w==f,?auy ?amv,#[?a45,ho,hc,n,hd],X.s₀.heap.FunFrames,jZ F (cs++ds),?b9l (λy=>?aOl),wF ?a1P (?GA).2.2.2,?mx ?aG,a b _ ?aQx e,[([]:?O)]++?afo,?b4G a,?b1M (st.at λo e=>k it ?G o e),?je o m ?jc,Fd ?g ?g _ _ _ _ c,∀b∈fp,?atO b,ps.foldl,?de h2 e,?b6A (At t4 t5),KT H kvs xs,items[i],hk p ?c2,?eZ h' z a b ?a8N,#[u,hu,eu],?dX a o hk,b∈X.ex\/?atT b,?h9 .Eq,?il/\?Ep/\?Vx=need,Classical.choose_spec,qf1 ?XT,?atF EH j,(self,other),PGs X es t,?ak hr ?a2e,∃a b,w=?e4,?Hz ?alw ?akc,?b4Q p ?dt,ql1 _ ?alU,?b7K ?F,?awf h hp h,?ag n ?l9 Q,∃z L G,?b5p 4,lo+?up*1,?asL M (storeName ?T x u),Reps.x s hb r,(?c9).filter,.bl (! ?a2X),∃ps,?ot,?k2/\?KJ,n*D<=?aT,Pj h a ?lh,qh2 hd,?b04 key,qb0 hc rw',iU xs ms _,[s1.heap.objs.size],Y8 H Z a,.flt b,let s:=?a3P;?i0,.(λkvs' q=>by rw[hz]at q;cases q;show hx),?asZ u2 D',?xu ts e,(Ic k0 f).filter,(?Mu).2.2,Su n ?xt ?DA D,#[p,hp,e],?au2 o ta,?auO ?g7 (?Ju b=?Z),#[m,?aGB,_],qd6 hi,.(by simp<;>show ?JP l2 (?r7 l1 hlt)),?c8 v w'->Q w' s',?i9+?up*?bN,wF ?a1P ?ex,I.hok.laid,∀q c,q<m->?a1->B q c=?asS (L i q*?jg) z,if g=f then ?c0 else mA g,(c:Addr),λspot st s' hs hI hB hex=>?_,?od e2 hne,((1+j:Nat):Int),RE hij hj,.(by rw[qa3];show hl),r xs H Q,vs++[?I E],?BX x=?e3,.(by cases z),?auf D (?U ?a0u),?azZ ?NR,.(by simpa using q1),?cQ h TO c d,2 ^ kB z,wF ?aKA c,isSubtype_stop,"range_iterator",?IZ hp,?y (?x ?Vh),Gu w n ?a0J SB,Builtin.SmallTypes.ownedTupleIsFree,?jm ?a0S 0 lo,#[a,vs,?h,q1,r],λv hv=>(?nM nd).1 (qv5 hv).1,#[q,hq,e],?ayu ?vo,?azx ?aBu,?b32 la,.tbl ps,?asC (i<?k),.(by ext aq2),?aw5 (V.bl b),?avj h.head,.(by rw[Jl,Jl]),Addr × Obj,λv H2=>v=?as/\Q ?jh H2,(?BJ a:Key),(?b82 hk),zE R vs H1,?Qw tg ?ew u,?asC (?r+j=n+?a0),?b8i p1,?b8t p3,?b5S 1,An ?iL,?WG a=?i ?HF,v=?cr,K1.st.good,K.In ?dG,Array.getElem?_eq_getElem,fX UH hs,?b6z n,Lat.turn_sum,(?bL b u e).stay,?a22 ?ew,Gq ?dh m,b.lev.filling (OP hs k) b.fin.dg ?ZM hi a ha,?au2 i ty,#[m0,w0],Lat.sumN_one,-?h8<=j,∀l,?Jf->Q ?k7 ?aFP,?b6x ZF,?aHH i _ ?l,?auV ?aN R,?a8e/\?s6/\?ai0,?n0<=?rA,An (?ayS Hq ?aEe) p,richCompare_meets_room,?b4b p5,?b45 o ?dL ?ez,pT n B R a ?aF,#[p,ys,a,b],hA b ?U4,?aOI\/?aMa\/(i=0/\j=3)\/?aOD\/(i=1/\j=3)\/(i=2/\j=3),?qh i hi hn,?ay5 R1 B1 t1,Ip ne a b c d k,?b5L p,#[?es,?cB,λd h1 h2=>?cR],Int.natAbs_mul_self,Ar.arz12,?au2 o to,ixN ?be i,qe8 hm,Dt ?fM H uk ps,?aIf j [],?h1 j c ?g,Ar.arn13a,B q x*R q y,Ag8 ?OJ X.N sc N' cap=true,?auf D ?G8,In W n R v,λi x ys τ H e p=>hs i x ys τ H e p,(-9223372036854775808:Int),?avT ?dL,Af0.extBut,gT m G B j c',.(by rw[eB];show ?a1N),.frz o u,kvs++more,vs=v::r,?b9E ?H ?jb,if ?jF=k then c else 0,?b7c h 0 ?g,#[?kk,?Q],?a1->?jg=0,MS xs ?aL ?c9 c,?atn p0,?auV ?aN ?eA,atKey ?aj3 k,?b2i H',λe=>?oG k e.key,qy5 hj,?t v,?b9Y lS hp,.(by simp at hl),?aw1 hl2 hx,?asT p6,if ?p3 then 0 else ?a2Y*?a9Q,h.lift1 hf g,?auf ?aG ?tN,?b10 y1.natAbs,VI W ?aC,#[ib,rb,pb,_],?b06 SE,λj _=>?Bl j,if b=a then 1 else 0,?ayC (?b9E ?H []),ls.foldl,?ay6 n,if ?xM then tV ?o ?aPY else ?aPY,?b3d p3,.(by rw[hj];simpa using ew),PyProof.noPylong_small ?g,s.1 i,?U ?CG,.(by rw[qj2];grind),?auQ m q,.(by simpa using hz),?b99 k (?iC<n),(?wz).map,ex k,?avo b,?awc (by cases hp),let s:=?a3P;G s,?asM β s,λc=>?Fk,#[p,xs,i,z,?V,hq,he,q],?awv (?Xn) j,.(λc _=>by ext hj;rw[?un]),?b9K (Ib ?aKD i),{ s with heap:=(?s7).push ?Fu },?ay3 (hm b _ q λz=>z),#[b,ws,?h,q',r'],Data.seq,?C H nm (?U (ns'.map ?aB)),?b2n a,?a9 ?mL k,∀ob u,?a49 a≠?i (.frz ob u),?XF+AZ n j,as++[b],?b8B (hc Ae s1 σ H1 vs us Q I1 r1 q1),∃old,?auv h it ?cl,x1-?mu*x2,qe7 hi,let u5:TS:=?akw;?aWe,DT ?Bc,List.getElem_inj,PySem.W.instObj,ib.toArray,?FE h2 h6,?b5F (Cd H' vs ps),dk_empty ?aA I.big,?awl 1 b gb,?aty H' s',#[4,?L,?jy],?eC l=?Dv,if ?xM then Iu ?ul ?o else ?ul,?j ?ad4 ?sd,#[σ,H,I,h],#[C,hc,gc,lc,cc],λh3 hen Wa=>?_,#[?a5,?a5,?lZ,?CQ,λi j _ hj=>?g],λa _=>?_,∃sl,?tM=?i { o with slots:=sl },?ak3<=?aKH,let u4:TS:=?aEJ;?aQy,.(by ext a6O;ext d),λb u q n=>?ay3 (ne b u q n),?ayu ?ar,En w r T t,R i ?gJ,#[p,ys,?gf,q],?rY≠none,Ar.arz2 a c d,Cd H us ps,.(by ext AZ;rfl),Dd (IV [] b.1 ?mB b.2.1.length),rZ n w k Qt,λp=>?zN,?b06 MT,?b2h 2 c gc,?C H p ?fa,zt3 h a b,λus s1 #[vs,?aE,r,q]=>#[I1.kIn,?_],#[xs,hq,hx],λf=>?awY (?QL ?WE []),?X ?h z,λx a e=>?_,OG h fs n j,zG R vs H1,k=NameKind.free,H dx=?Bp,?I tp,?sa j _ e,?cd c ?G,?cQ h' ?aG x y,(h a z).elim,Nat->?asf ?Y ?cJ,?atz (0<?v3),?ct=?ct+n*0,?uu [?aX1] ?kE ?H,ns.findIdx?,.(by simp[z]),Lat.gauge_edge,?ayr Ar8,(?cl+?p2*1).toNat,?WG b=?Z,#[sl,hL],i.toNat=j,#[p,k,v,hp,?V,y],qr2 pk d2,?vL=?c0->?tM=?c0,H b'=none,?Ot=?aW,#[j,?h],F.args_enumerate_next_1 _,?awC ?d5 j hj,UnaryOp_,∀x∈P,?aM6,blw k λj=>?a7r,pO ?aA x dx C mA,((?a7L:Nat):Int),λg hg=>?_,?mx ?a3N,(?b9A (s' y)),dep ?NM,?at9 p2,Zx _ n,λy x=>M x (?atI 0),hn.sameBut,?m hl hm,Cc A p w,?a1E ?aj3 k,D.TOi2.symm,seqIndex?,qg9 (a*x) (k*y),?auf l o,?bm (R:=Iu R j) hj,(r-k)*?w1,b+e+1,run d ?g,(?adX).isSome,λt=>?a7K _ _ _ _ _ _ t,?rX+1-?Dt,"list.index",?b6c i1,E6 (h ?H Ae s σ H _ I hq) λus s1 #[xs,?aE,r,z,q]=>#[by rw[←r.length];show z,?_],t ?gn,?an B ?o i q,hst.mono,setField,λc H1=>Q (!c) H1,"starts",I.cne x c e,.(by ext aqb),?asG p1 W2,mg ?a5A=?i ?alw,Nat.le_of_not_le h,?aum (?b4G ?FZ) E s,?de h2 z,.(by ext aqy),?eb C ?aG [],?m hl hr,?tf i ?g,?b6A (At t4 (At t5 t6)),?b8Q up,β+?bx,?b2O hch,.(by ext a6N;ext d),k5.IsTupleIter,λp=>?tH ?NS,zs++[y],zt2 h a b,?af ru ?aH,?asa ?i6 (?b5S ns.length),Classical.choose,At t4 u5,?fc f hfp,fs.length+1,h.good.eqv n ?l,es.toList.any,intBits_le_64 h1 h2,∀H',?aM->?dm,λxs _ i=>?vT,?atN p q,yY Q x y H2,sD fam ws,?auy (?aay==0&&?c7==1&&?IB==items.size),bookF+bookF,i<sp.length,p++[f],bj.fin.ir,(?jV).length,eqDs (Ek a) (Ek b),(its.toArray.size:Int),#[a,xs,?h,hx,hw,q],hashInt k,?e6 ?bk ?Nu ?Gq i,?au2 ?FZ (Be2 i),?au2 e td,(?yP).natAbs,?asV (P x a*u a) n,Nat.sub_lt_left_of_lt_add ?aZg e2,Gl X ?vR,?ayr Ar7,#[x,?aE,rx,a,ex,d,q1],sIx n 0 lo,?awu p1,#[xs,ys,qa,qb,he],λo=>o.bind λj=>?aLN,∀b∈fp,?aab,[(t,?cG),(?cG,t)],if k=a then 1 else 0,At t2 t3,(i+n).toNat,ih ?g ?g,λi j=>?t ?p4,?aw-?m6,h.s0.pos,?b60 i,.(by simpa using hs),IrU g x H Q,?i ?xN,bj.fin.dg.pos,I.ok.frf,?asc (T c k*X k i) r,An ?o6,#[m',hm,w7],∀C,?iV*C<=?sO*C,?az2 ?aWz,∀kvs,?uk->?tO,?asd (qb0 ?kN ?aZM),?b6x zD,(←isInstance other ?r0),λk=>f k*c,λq=>(hf _ q).2.1 ?h,ZE K R x H1,?asC ?M,Nat.exists_eq_succ_of_ne_zero,?axc ?lk,#[u,?h,rx],tl _ ?l,λh' tk k=>#[_,H,?vQ k,?_,q],wpAny_updateSeq_pair,?C H l ?wj,jH n*B ^ n,?Fy f hf,∃o,?ya,.(by rw[qa1,?gr];show ?acK),?b2l ?X9,a=nm\/a=r1\/a=D1\/a=D2\/a=b2,#[j,?Q,?h],?bh n [],An ?oz t.1,?b4x p3,?aF=?cH/\?dl=?lO,hnew.typeIs,?asS (?aZa*?o8 z PB L i d) z,λ_ s6 _z=>?_,?bm hq,#[hz,hTI,#[_,_,hTO],hi1,hi2],?asb H M ns,?b5 ?CG,(v c).natAbs,?b8f hp,x.2=NameKind.local->?z8 x.1=?i NameKind.local,l[i]?=?Dl,Vq c η r e,VB n w r L m T,Heap.DictOf.new,F.entry_enumerate_next,ZG t u vs σ H Q,λc=>- ?gz,ho Ae s2 σ H2 x y v u _ I2 r1 r2 q2,(?a8r).getD,#[oi,h1,c1,d1],SJ R x H1,(?YJ ?g).mpr,#[?Wi,b1,b2],hd ys τ H p,#[u',r',?_],?b5M φ,(?We hn).2,A.depth+1,up c _ q ?dJ,?ayF t.lv,?asS (if ?adM then ?Cx*?b8C ?ia else 0) ?bk,?C H a ?fa b,?b8y r,?b5r t ?bg,?o5 x a ?aRT,?b5o a ys,#[o,?az,ho,r],λa=>f ?dY,.(by simp[h2]),?atn p1,I7.pin ?B6 (qi2 _ (qi2 _ (Rj hb e))),Pi ?be p,Lat.insT,.compLoop,?b3b Aq9 i,Same.refl H,.(by ext Lg;simp[Reps]),H1 d=?Fm,bs.all id,#[?aa,r],?avv H' ?mA,?b5G ?J0,x2.natAbs<=B.natAbs/\?b10 y2.natAbs,?bj->?vo,#[ok,ov,h1],?asU ((?j (λd=>?R1) r-?aO0)*?ms) r,ql0 λq=>z #[y,hy,q],env.scope.kind==?t1,λe=>?Fi,A a b*q b,?b9k e,Vals.append,(?cx,?aMC),?gv/\?asu b ys,Nat.one_lt_two_pow,t.2.natAbs,∃t,u=Value.bytes b t,Nat->?Ux,.(by rw[hD];ext eq),#[mA,O,r,?c6],R ?o ?gJ,?auL O b,?oS f y fs,hl j y v' e1 e2 e3,?M->?aBD,L-i=L-?k+1,((1+?a0%n:Nat):Int),?w (n=0),Ir fs f i,slot_list_getitem.lookup,?kv*?aJy,[?VQ,?b4D 2,?b4D 3,s1.heap.objs.size,?xD],?ago (Nat.pos_of_ne_zero z) ?L,?I R,qb0 h1 hi,let u11:TS:=At t11 u12;let vU:TS:=At VD u11;?ajA,?eC p=?Dv,?awQ ?jw ?E6,us.length=ps.length,.ok .next,λx=>!x.1,?a9 ?ajw ?zT,if ([]:?Nx).isEmpty then 0 else 1,?av2 ?g,kU hu ?xo,?Hl+?amA+?afp,#[h1,?EE],?awO ?S4 RB,xs=[x,?Mx],Yb φ _ _ h.ok.n,?ayS ChL c,λj c hj hcw hne=>?_,(i*j).natAbs,?axO p,h.st.good.rest,iF I (A:=A.in1) (by exact ?aVG;ext d) r r' rv QG ?aXc ?alJ,SqT K,?asM ?aip ?km,?at8 ?ex,.Compare,#[l,e,?aYh,q],?Jb s.gens,?n9 × V,?b4G b,Fd e e2 a b c d k,qc1 (?m ?P h4) h5,?xW+1,?azx ?ng,.(λb u q n z=>by rw[z,e]at q;show n (qb1 q).symm),?I q,?oK .FloorDiv,?b1S hx rx rv,#[n1,n2,n3,n4],#[p,bs,a,b,c],k3.push ?abh,(as.set i D1).set j D2,hx c ?g,e0.step ?f0,λk=>?aSq,?awY ?sr,Heap.get?_update_self,Str × NameKind,s2.keep h1.flip,?asG S W2,CC c acc b,?PH (t':=s1.toks) (λb u e=>?lV) ?l ?_,YU xs hl lf,Builtin.SmallTypes.ownedTupleHandOut,?b96 H',vs=[v,?EQ],?b3v ?iA,?cq H H2,?atl u s',PySem.F.entry_dict_get,nsK hns,L6 b1 b2 ?acD,?auy ?ab4,?asG p7 W2,(?bi h).1,?b9V a,JH hs B8 p,ntr _ _ hc',Q ?an2 H,5*?ef+?ef*?ef,qa8 _ (qa8 _ x),I.mod.glob.keeps I.bk,t.1∈?iT,(?b9Q (λb o hb z=>eb b o hb z)),PG X ?FZ ?O5,?b4j i p ?eu,tI f,b=s1.heap.objs.size,loop _ ?h,?axb ?r1,Ii k ?vn,?au2 ?FZ (tC v),y=?oX,.(by ext aoG),y k l*?HY,?b3d p5,?m fb ZK,?ayB ?o c,?asp (xs.length+ys.length),.(λz=>by rw[z,hD]at h;cases h),PIE X Ae σ tg R,?aW3 d 0,X8 ?a0*A 0 ?a0,h.s0.zero,?azD k h1,?auJ p2,(?adX).map,(?Zc) c,#[a,kvs,?h,e,q],Gq ?CO ?zh,?fY z h' h3,?b9M (?dl<=D),#[?Cu,?Cu,?vH,?aK1,?ZZ,?K0,?Wx],Fs n w T R,fin r rv,P[i]?=?d7,(?Jo).getD,?avj ?xC,?asL ?ab (?Te ?gK),?b04 c3,?cL R i ?o ?o st,?an R j q k,?t x t,(?vt).map,(sb.2 b hb).trans,?cd xs ?NZ ?q8,?b6r ?iT j,?rj H a y o,?j (λy=>?SN*Q y c) ?IQ,?rQ f k0 j,h q x hq hx,?b6o j q,?b2g C,Nat.succ_pos e,#[dx,fs,e _ _ h1,h2],∀d∈ds,?akh,?avR ?Wu,.(by ext pW;rw[Fh.mp r]at q;show#[a,e,q]),w8.extBut,?auC a,(∃o,?jG e=?Z/\o.cls=?aSB)->E ?gK ?f7,?U vs,hl u hu,e _ _ h,λi h h' ?Bh k=>#[#[old,k e ?c2 _ h1],h2.at λo z=>k it ?aWZ o z],#[i,j,?V,q],?b7u hd,?ayI ?Wa k u,λk=>?b0P k k k,?azl 3,qa9 e2,e1.extBut ?kn D.l1z,deps ?xA,λi=>?Xp,.(by unfold X8;ext ho),λw hw=>h w (?ay1 hw),λv _=>v=?my,s₁.gens=#v[],qg9 ?gh ?hC,b ∉ X.ex,.(λv z=>by rw[d]at z;cases z),PA X ?e4 ta,.(by rw[(hf c hm).1]at e;cases e),?awv T' ?aF,?an R' p j (-?ug),.(by rintro rfl;show h v qb9),Kf ?hS k,?b5M ?aCq,h.move hi hs,#[_,o,ho,_],k<m->x k=0,?b1g ?aeA,?auY ?a8T,#[?t ?p4,?pn,q],wpAny_comprehension_free,λn=>?w (?ZG/\n≠0),MU x vs H Q,?ax1 _ I,(?j ?I6 j+?adK).natAbs,?auG t d s,again I7 n7,#[ho,ho2,?_],?b6u ns,?py o i,(?e6 ?bk P M i c).natAbs,k b u (hb b n) q,λh3 Wa he=>#[he,uE.at λo z=>?atB it hne.symm z],λi=>?aL7*?a3A,?bL b _ e,k*R q ?cP,(x,y)::ps,.(by ext a5w),?aye f,?ayF ?ym,?D i ?RB,?v8/\?mv ∧ ∃xs,?a8Y/\h.DictOfH ?XG a xs,?avv H ?aO,φ a ?aIp,?b9I (λx=>PB x b*?aEi),?bI (?b5N ?IB).toArray,λb o e hx=>?_,(?b0f p).natAbs<=μ*?ll,?azj ?aU8,0<=?pF/\?pF<?oF,?a2->?a2->?eD,?asM ?XI ?vX,?axc ?dK,k r c hr,?a2b∈sc.names,An ?Kt,E6 ?DG ?Jw,#[a,e,?aYh,q],aV A ?a0,FT t k c l,r1.append r2,zA o i v H Q,?b0x r,?ays hb wh Q,?cz ms j,z.sameBut hs (cne y c e),i.natAbs<L9,Qy ?a7 fd ps ds,?b6x As1,?b5L w,hf it ?G,Ee h4,#[qa,qb],?asC ?aU,(?b2z _),.(by let:=r.un;ext d),?b5 vs,?azL hs,?awl 2 c gc,.(by simp[e]),(?JG).natAbs,#[?kk,n,?Q],?aMi .Not a ?H,Vn _ _ hv,?b7c D p hp,?atz (u j=j),Al4 ok e,?a20 j t n,?b8f ?bn,g.pos k hk,dX hs ti B8 (p:=?EP) ?g ?a9m,?vC l _ ?g,hl b ?c2,?ayF h.hd,?avu G R B,?rZ o i pos',?aw6 H p ys,∃o',?tM=?i o',QB ?eN c,Pv 0 σ H,qr5 _ z,qg4 (qg7 s2 _),?auY ?aYy,?aw-?up,Ar.arn26a hb lX,?j g ?r,?b3R k Qt,(hl p ?c2).times p.2,Mut (H x),(?m6:Int),?b4B T ?F5 ?os,#[b,?h],?oS "backs" b ?aP5,Ib A 0,?asV (v a*?aXU) w,SG x vs H Q,?b9D ?aGw,let s:=S;?i0,J9 W u st,ItB Q x H1,Ar9 K n neg x y H Q,?P n ?l,(?awL te ?aMU),R' r c=?gF,.(by show ?Et),?x ?ik,(?dz z).map,arz1 (qh8 h0) h,PySem.W.cellsFrom_some,?b8Q ntr,(?S7).join,Pk n ?a2S,(?aPJ).getD,?axl ?ap G,?j ?QA r,Mj f e1 e2,nH t m<k,.bl ?aGN,Int.ediv_nonneg,Ar.arz1b,?bL a _ ha,E6 ?By ?Jw,qg1 _ he,t.lev hj,tCall sp [] E0 t,Int.mul_le_mul,?axc ?aCA,?ayu ?cJ,P y b*?PR,?b9a ?dZ ?dZ*?ada,?b5G ?IY,r*?w1,r1.fmod r2,?qg ?g0 ?vx,xR hkey,cF fp s5.heap,?b5o p ?aNR,?ayE S,Su r ?mD T E,?b0J H' ?kr,(?auw ?iF).congr,.(by simpa using e2.symm),z+π+1,?azx (λr=>f ?c1),ChainTo m i f,zz-2,let u3:TS:=?aXu;?am5,?n8 it a i,?x ?_,(?aC).natAbs,?au7 (?iI ?jw p) [a],Ar.arn40,?auf p ?y6,?b4L p4,?asC (0<=-B),?z8 x=?kM\/?U8,hf _ ?ace,?b6Q ?fT,?b0t it,us.toArray[j],?D k (Ib ?aDT i),?b4G c,?aua 5,tab k z,R x y H2,SqT ?a7 H p ys,if c=c' then 1 else 0,List.Nodup.sublist ?aPx h,qf4 h,?b1G ?w (?aB a=?aB b),?b1v Lg,?cV "type",?b6n i,?QE ?aYZ,∀b o,?Iu,K6 ?alO ?alv ?a7x,SqT K H1 a xs,I.ok.inj,(?b3Y p),λy H4=>?Yn/\?a0t/\Pv ?k ?I7 τ2 ?Qs,#[?b0B xs.length ?lx,?a7R,?_],Rk ws fam 4 [w] [],?cQ h' b x y,q-p-1,ls.length=4,i=0/\j=2,liftsB n ls,#[v,r,?h,_,h2],?b3d p6,ZipApart,K2.st.st,#[ob,_,_,?Q,_],?asM β ?dt,.UnaryOp,?axb h1,(eF▸hj),small_one,?j φ z,Int.mul_ediv_add_emod,hd zs τ H pp,(?bh k its).flatten,(?av5 (?b7v h)),vs.length=ls.length,?b06 ZA,Int.natAbs_sub_le,?bL a _ e,{ s with heap:=h₁,toks:=s.toks+([]:?sK).length },pQ D nm r1 D1 D2 b2,λ(m:Nat)=>?b3E ?aDA,dL w ?aC,∃c,?a1D n=?e3,h 0 ?g,λz _=>?abG,sI xs H Q,As2 K R x H1,?k-?bg,RI q.1,.(by simpa using hy),β+?iM,dT w w λi j=>r.1 j i,?b30 ts.length,{ cls:=?r0,data:=.dict #v[] },?auf p (?U (xs.set j v)),Q ?aO ?f7,D j j hj hj,hp p ?c2,rZ n w k T,#[x,?aE,rx,a,dx,fs,ex,ea,l,q],I2.hok.fresh ?l,r.repl k ry,?F8 xs ?aL ms,?awn ?Iy,?ata (u c=v c),xs.length=n,tup_cell,?asv fl,GA lf acc p,λb ob z=>?avR z,?Zs V.bl,?b4M cd,c.locals,λr l=>?b8w T r ?cP,PySem.W.takerIn,List.drop_of_length_le,qe8 hi,?au2 ?kE tv,?axy (by rw[?nc hq];show(?L:?c7≠0)),(?we).getD,?asu p ys,y1-?mu*y2,Vq c η r d,?az3 ?_,?f8 x t,wpAny_execs_cons,k.natAbs<?bS,?asR p4,Kx ?k R t,At t2 u3,tab j z,h.2 i v e,.(by rw[za5,qo3 (zc4 h)]),?b3m p2,?b57 ?aNQ,?b6v ?s5,?aty H s,?de h z,tupleKind,λj c _=>?wP j c,∀m,?jI->∃r,r<=m/\?EG/\∀j,?cA->j<m->w<=?aF,?ayI PySem.W.plainOver K C,acc'.toList,.(by simp[Ff]),Obj.data_mapFields,if i=j then e else 0,Builtin.Dict.dictSlotArgs,H p=?i ?a3z,?bw R p q x y z u,tn i s7.heap,hb b hb',?asX ?adK (2 ^ j*m*?ic),?tj ?nC,?asO H ?ua,let s:=?Ww;G s,b1.same e,VI w ?aC,yX C m sp dvs E t σ Q x H1,i=1/\j=2,?b6w Bo ?aS2 H,?auY (B4 ?g c),∀q,?qS=?aHg,prs[i]?=?kJ,i=0/\j=1,(?ql).map,?b5 ?aim,λC=>?axc ?sB,λh' st' sb=>?_,hs ?o9 y hy,An ?rf p,#[i,j,?h,q],SH K n x vs H Q,#[(Cn h).1,(Cn h).2.1],tr R x c,?b6X ?Ez,r.length,x≠"__name__",?asp ys.length,?axb hp,Iq p.2 ?HO,?aul H ?aO r,#[?v9,?G,?a5,h0],kvs++[p],(?Wh).natAbs,?atF B7 j,?aH4*f k,#[i,?h,q],s.heap.IsSliceOf sl vl vu ?aS,DecidableEq,j<vs.length,Gq (a 0) m,MS xs k ps c,?Nr*?a3Y,blw k λj=>(?aRb (JS ?SO q)).sum,?w4 tes x1 tpos,dT n n λi j=>l.2 j i,?awF D,λb u e=>?_,Mod ?a7 ?fr ?g4,?b7K (0-1),#[a,vs,?gf,_],?ZK i,.(by ext aoI),Ws R t j ?zk c,?abC-ds.length=f.toNat,(?auB ?aQD ?aQD),Pm (?bA ?act []) ?aXO,(?ia).2.2.1,B.natAbs<L9,?azB ?k3 (i<b),?af ?h ?aH,if v<0 then max (v+?aw) 0 else ?a0y,?oS "rows" r [],?auy ?a2X,λp h=>?zY,?au7 (?je ?aeK m ?jc) ?ez,.(by let:=p.π9;ext d),#[A,ha,ga,la,ca],#[?aSP,hit],.(by simp[hl]),r≠spot,(?x5 ?Sg).objs.size,ft.bel f hf,#[?aRq,H,?lw,#[?vv,by rw[qd4,hlen]],q],?awQ ?lz ?Ca,#[ok.mod,ok.kind,ok.glob,ok.blt,ok.above,ok.inj,ok.has,ok.cab,ok.hd,ok.frames,ok.stk,ok.exf,ok.bs,ok.bsz,ok.noex,ok.exfs,ok.funs,ok.frf],?b7K ?p9,?b6w Bo σ' H',ds.length=es.length,#[p1,p2],?b06 mT,?b9l ?aZF,qn0 ?g ?Gf,qt7 hiσ,r.append,Ef hn hm,-q*?x2,?asV (?am0*?pH) m,qd8 h2 h3,#[f0,f1,f2,f3,f4,f5],?au2 f tx,?J6 i ?o ?dt,?at9 p3,#[main,?_],?f1=?v,?axV T,#[p,hp,?cw],.(by subst z;rw[r]at mu;show mu),λh3 Wa q1 q2 q3=>#[?mr,jS.at λo e=>?atB i1 D.i1z e,h2'.at λo e=>?atB i2 D.i2z e],h.ok.z p hp,(B i x).natAbs,#[ib,_,pb,_],?fS<=?qr,?r7 hl ?Ql,?df w B ?Xp x,skip_prod,(?XG).is,?fG->?ft,?awY ?GH,Fe rp _ e,Shared.heap,v9 n w T ?D9,hr.sum q,?eb C dx ?aGl,?kA->T i j=0,λ_ _ _ e=>e,qy7 _ qv7,?axj R u,qz1 h1 h,[(?cl,1)],#[o,e,ex.2.1],SP X Ae D,?b57 ?pA,?cV ?id,x a u n1 n2 e,2 ^ kB ?bk,.(by rw[HT.sIx_nat];ext d),?asU (?aZB*?b9K ?Nl) ?r,Jv [] kvs,?iN ?fb i ?vX d,UF n w D π β π2 β2 b2 A m M l r,I.stkSub,#[p,ys,a,b,c],λus s1 _z=>?_,?b9j ns,#[?cc,e3,e4,e5],Zcr._auto_1,?eh->?a3J,λy a=>u1.1 y ?dY,a≠r/\?KC/\¬N a,#[p,v,hp,?V,y],#[h0,h1],?aOI\/?aMa\/?aOD,?b8i p2,?asG p6 W2,∀x0,?Bs,?b6n ?jj,[?aaH,?Rq,?EJ,?HB,?UP],?auJ p1,?U ?f9,T.keep _ _ _ st5 λb hb o e=>(?aGF).1,EF K H H' tp nm r1 D1 D2 b2 n w k f l r,tO (λr=>?Qg) i,?auf p ?akQ,E6 ?FX ?aCo,SI xs H Q,?c8 p.2 q.2,n<=100,let u7:TS:=At t7 u8;?acV,s.2 i x,"__getitem__",.byt b,?t (j:Nat),tI ns,?m sh.lb ?Bk,cellsFrom,qa9 ei,?a04 I hx' hy',?b6u bs,dT n n l.1,(p dx:Addr),Bh8 j hj e,?ay6 4,?aj0 h1 h2,(?a2I prog w).is,λc=>?aZq,?GM A B g a b,(?ug).natAbs,?b9X e h,let u3:TS:=?aXu;?ane,?cd f hf,?q2*?Vs,?a6 WData,?asU (?l0*L j c) z,h _ _ ?eQ ?uw,.(by let:=qv1 h;rwa [qo6]at this),qq2 _ gn,e1.trans,wX _ _ q,?atH ?ww,#[xs,ys,aW,UC,hx],?asM (β+?bg*?UC) ?Uh,#[[],H,I,?aH,h],Ic n ?dh,?hF hb,if r<p then r else ?c1,Lg xs D _,D.TOz.symm,b≠s.heap.objs.size,?aun u,?asL ?ab (?Xz ?D3),λb u q=>?zi,λh' hz hTI hTO hi1 hi2 hsz hk=>?_,.(by let:=r.dp;ext d),?b7i h,spot*?oY,?QC->?UZ->?Zp,∀c∈?k4,p c,h q c hq hc,?asS (?e6 ?bk ?Nu ?Gq i c*?e6 ?bk ?VX ?DH i d) ?bk,ltc x a e,q _ I.fresh,a*R p k+b*R q k,qy6 _ hc,?a9 ?aBu i,(?atW ?amw).length,#[D,uk,?cc,e3,e4],l.row.toRowW,(noB ?ql).map,x.natAbs*?qk,H r'=none,#[Bs2,dd2,data2,sl2],s3.heap.objs.size,?b9K (aV ?aZL j),?cq O H,(?K7 g).trans,.(by simpa using I.len),(?U6).findIdx?,?b5C ?aO (Ic m f),?b2H (?v,n*p.2),?ase he _,k a _ ?cB e,?awB sc.isCoroutine,?t ?a7v,?avt ?xe ?km ?km,?b8y Ar4,λc _=>?_,iF I (A:=X.A.in1) ?Xy r r' rv QG ?aXc ?alJ,?kI ?cG,#[P,inc,hG],?aw1 hl hx,?b1I t s s,?axP h,?oK .Mult,qa9 hy,σ.set i ?aW,?asc ?aIJ n,s'.1 i,?b52 ?n5 ?a1v,qc6 ?aYA,kk _ _ ?aI2 q,I.nodupK,?asU (?a1Z*Z j l) ?c1,ItFld K f Q x H1,?cV ?XH,?ay2 i v ps,?auC b,VJ.start,?au2 ?w9 (tCB r t),h.s.same,{ s with heap:=?FT },#[sl',e2],(qe8 hs).symm,.of_refs hab main,?b2p B,#[_,?eS,?V,?aa],p3 x0 x1,(?jL t==Value.none)=true,#[_,hen],deps ?gm,(?aVq).natAbs,.(by simp[atKey,qo9,e']),.(by simp[eqDs]at h),Int->?cy,?q2*L b c,.(by assumption),λf s1 q=>?_,h1.DictOf,λr s' hq=>?_,?Ip=0\/?Ip=1,vs=[?R,?I hd,?a4m],?azn ?acv ?O5,∃o,?h5/\?i3,floordiv_int,bs.any id,?awu p2,λh' eb=>#[?h,?avU ?gO (?b83 (eb b ob ?e1 z))],?ayc (?zu+1),#[k,?h],?df m D (?o8 z P L i) x,?awT ?agn tI,R1 ?cg ?am,β+?Ix,Reps.one,λa e=>?_,c*R p k+d*R q k,j8 f y fs,?od e hne,y.natAbs<=n,?b6w HP σ Q,ms.findIdx?,λi x v e1 e2 e3=>?_,?awY ?o6,typeLookup,if c<j then c else ?bx,λi H=>∃kvs,?uk/\?b89 i,Cc A q v,#[hr,I4],?azx ?Xg,hd σ H p,?axG i G,?vZ*v c+?bN*?a4N,∀name,?ahR=?i ?a0P,?asu p ?aNR,?awi s N,?at8 ?XZ,λi=>r.2 ?acg,?QP/\o.data=?bI its n/\?asp its.size/\?bq xs ?ZO,?atF EH k,?azA ?Z5 Ae,?cd xs φ,pP xs k ?JS,(?ih).natAbs,?aPR hd,λi=>?anc ?hH,#[?aRe,ho2,hc2,n2,hd2],vs[n]?=none,ly.keep s,?q fin,λq=>hb (q▸ ?c2),?awB sc.isGenerator,∀p∈c,?at8 ?HO,?avM EuR r2,lfL φ q ps,?b7m ?bx,iK ns ms h1.n h1.z h2.n,(?jx h).1,.(by rw[qb6];show hz),a1.same e,?ayq PySem.F.args_dict_pop_3,A.natAbs<L9,u σ H1 Q,X.prog=P,?ayI PySem.W.hasDictIn K C,I.idict hb,(?vD).2.1,?a9 ?ajw ?oR,?dx++?b7K l,?awj k f,#[a',us,e,hq,r],#[kq,hu],builtinsNs,qg4 (qg7 s1 _),Av5 K,pl.isList.typeIs,Heap.get?_update_other,?nR*?fR,?at9 p1,#[?aa,?_],?awY (Hq xs ?aL (?e6 ?bk ?VX ?DH i)),#[#[_,h],?oB,?xX],(zt2 ?aA a b).objs.size,JP (bD _) ?_,?ay3 (wX c _ q),zF R x H1,3<=p.length,?b1G ?w (?v≠k),?jL ?ba::?vP,qb4 h2,?di ?aXx,?tZ i1 t1 ?r,#[x,λ_=>hx],p4  x0 H,ys[f.toNat]?,?b9I (λq=>if ?b9i ?WX then F (q:Int) else 0),?zI r1 r2,w.length=1,wpAny_setField,∃u,?jG e=?c0,#[ia,ra,pa,_],λf' hf=>?_,.(λv q=>by ext aqt),?b9E ?gN ?JX,#[h.1,?v5,?s5],c ∉ fp,?b4G ?a2G,Sq es.toList ms,p4 x0 H,?Hi h' e j ?jU x ?aG,?b5i V j r,i<=ns.length,?N2 e ?T whole,(?xh).natAbs,?I ?aRf,(zt1 ?aA a).objs.size,PySem.F.slot_dict_items,?asu b ?aOB,#[ob,h1,h2.2.1],?PR*?II*?ajD,x m*T m c,show ?m3 a ?aat from pa,?EK++[?aw],(?aaR).toArray,?b29 u,∃t,u=Value.float b t,?avG p1,?auf ?aG ?ado,qb4 hw,Fy O H' vs lf,one x,∀a∈as,∀o,?aVz,?b9a p p*?ame,VI ?aN f,YT ?a7 C m f,λn=>?aGq,?v≠1,uC x e-uC y e,isTrue_and,En w r R t,?b9I ?VD,.(by ext any),?azy i,(?b1N (h _ ?_)),(?bR).natAbs,hM a _ ha ?a2i,?asR p5,List.Pairwise.filter,λi j h1 h2 h3=>?_,SA X ?ti tb,?ei e j,?b30 i,?ayl m n,L7 ?VM ps,t ?zA,?bY ?a52,P4 xs k ?be,#[q,hq,eq],λy H4=>?b4H H4 D zs/\?b01 zs.length/\Pv ?k ?aEE τ2 (?C H4 D (?U ?aEE)),?b1U zs pp,Ar.arn7a,?aur (u=?jL b),.(by exact ?asp ((2:Nat));decide),?aw8 Ej ?F fd,Int.mul_fdiv_add_fmod,(?ck).length,?Sk+?kx<cLine,?azM GP hs,λx y=>M x (?atI 0),?b6x SK,YY tb σ Q x H1,?ayr zC,Ai0 n w A D,?fI≠1,β2+Hr π2 b2 i<=big,?rv ?ku ?ny ?aC5,?awv S (u j),.dK ?RY,?axW T,?b9D ?aCx,?aB ?cG,b'*?bR / g,#[z,hd,xs,rel,dd],?b04 h3,.(by simpa using hi),Y8 H Z,?b3m p0,.(by rw[z];show hb),.(by unfold one;ext a6E),(?a3k).length,?b8f hx,?YN ?a0v acc,?axH ?kx,qw3 c (?n1 pj),.(by let:=dg.mn;let:=dg.mw;ext d),qe7 (hq r z.2),?b7F r b,y2 ys qb,tn i ?kr,?b2e ?Z ?Z,lV f k0 z,(?mG).r.ok,Nl R ?gG i k,Ic ?r f,?b9I ?aZb,EE xs k p,TI K H' v ns,(?avz xs.length ?lx ?a7R),?b9V b,?aM2 hn ?se,P σ' H',?su->?rY=?Z,∀v,(x,v) ∉ binds,slicePart_none,?Bl r ?g,(?Rh).getD,isTrue_or,?bq dvs ds,PG X tg g,ih _ ?add,{ D with nx:=u D },?azZ ?kO,#[f,h,?G],?axb h,os.getD t 0,Paired.snoc,hl.length=4,?tf l hl2,dT w w r.2,λx y=>M x ?jW,?m ?nF ?lk,?atJ ?aYA,ChL.nil ..,ZD R vs H1,qd8 hi hj,?aA5=?BJ b,φ f-?aYE,hx c (qb0 hc (?Bq hW)),λ_ hc=>hc,?gs ?o _ ?l hs,Fy ?fM H wu lf,Ar0 tb σ Q x H1,qi2 _ z,pre_splitW hpre,?b9Y g8 hi,#[u,r,?_],?gs j c ?g hji,qc0 _ ?c2,#[k1,k2,k3],?asG p2 W2,?F+?oR,(?a3k).map,let u4:TS:=?aEJ;?aLx,.(by rw[qi7];ext d),?aS3*?sA,op≠.NotIn,hh d ?g j ?oC,{ cls:=?E6,data:=?eG #v[?aS,?K3,?bV,?mx 0,?aS,?aS] },.bl ?a2X,Ah2<=big,?ayq PySem.F.args_dict_get_3,?F+?zT,?atv ?uX,?xu ts e1,λ_=>Lat.one,∃u,us=[u]/\?go,λc=>?aaw,IrI C g x y H Q,Es K x ?hI st f fd,Ar5 K n x y H Q,?b07 YZ,?au2 a ta,?atR e2,?bn k hk,qb4 hi,?je o f pos',?b1g ?X9,λf vs=>PySem.call f vs,?b0T pK,?aEV+?bk,W m σ H,?b3F ?bS,#[?fq,pl,hz],?asR p3,?awO ?eA B,?t n tk,?b8j p1,qd8 hs hn,#[u',r',q],?aPr ?ajl,?azs ?jU-k0,SqL K H' a xs,UG H d,?J->?a7u,{ cls:=?b3a ?cV,data:=?b0s ?R },Q ?aRq H,Pm ?iT q,Builtin.«zip.__next__» #[[?mC],[]],?a47 i 0,?h9 .NotIn,dT n w M,#[?vK,λb q=>?_,hd],if ?d8 then(?v,v) else p,λτ2 H2=>tc τ2 H2 (?b8k ?aV8 zs),QB ?eN a,#[os,hos,hcs,hds],?azj r1p,?ayu ?ft,entryFor,Mk ?a7 C f,?awm ?_,R1 l ?am,eqDs_ok I ds,.(by rw[Int.neg_fmod_neg];ext d),ti.lv k hk,?avr (Xn ti B8 hk hps b ?qs),J.yld i H x H',qz7.mpr q,∀p∈ps,?aGG,#[g1,_,g3],An ?mE ?a4r+n*(?Kz).2,#[σ7,H7,I7,n7],m<sp.length,b.fin.dg.pos i ?gy,?au2 o td,#[i,hi,e],bb.2.2 r x hr hx,?atN (P y) v,λkv=>(kV ?f1,kv.2),#[?et,q3],At t3 u4,?asG p3 W2,?b3E ?Jl=?i ?Ht,"dict.pop",(?aBc).1=_,λ_ _ _ _ n=>n,t { nx:=λ_ H'=>?dm,rt:=Q } ?JZ H,h₁.get?,w.length=3,#[c,hc,e],∃r,?d3/\?EG/\?asz (w<=?aF),?atz (In w n T ?aV0),.(by simpa using hp),i.natAbs<?jv,∀l,?Jf->Q ?k7 (?C H l ?vO),Gp w n r E e ?zd,qc6 #[?aa,?vy],?Ok ..,?b3m p3,(?m1).set,wB φ fs,?Vj-?aC*?PR,qe7 (x.above y c (qs4 h)),?zL k hlt,a c o h,?m (AK xs lo hi) hz,?azL ?qR,λr c _ z=>z.elim,?b8U hk k,Builtin.List.listTooLong,(?az1 h.key),?aQk ?ba scope.names [],Cc ?yD q v,of f' hf,qo6 c β,?b0m j,?an B' j p ?ug,?i ?bV,#[dx,fs,?Q],?m5 ws fam [] l,Builtin.Slice.sliceAdjust lo hi 1 ?aw,λf=>(?zS:Int),?b67 i,gs.foldl,?U us,if ?jD then ?Ha*?ET else 0,SqL K,?awB ?ab4,∀ps∈ls,?agZ,#[xs,hq],preSum_sum,.(by simpa using q7),q.2.natAbs,(?Z5).Ok,?jm ?be ?be hi,?Zs ?kQ,#[_,?n2],?oS f v r,?fX ?bk ?bk ?eW P,λi=>?Ha*?ZL i d,?asC (?p9-1=j),?ie B H H1,?a1->T' i c=0,?y ?ahX,i<its.length,?lo m q hq hlt,Ec ?g c,#[us,?cc,e3],?asG p0 W2,lift1 fl lf g,h w' _ ?lw rw',e.val=?t v t',pcl _,(?b6t ge),x=?I d,?Nn i ?o (-k) s,Fe ks _ e,?azc (?qa=0),#[#[o,e,ex.1],λa e2=>?_],X8 j*A 0 j,(?yb).natAbs,(?y8).kindOf,?m bl.zm ?aZ4,λc=>y c*?ZE,∀spot,?hN->Ew n W w i G R B t π b ?o R B,?avj hη,?b5f ?aN ?aSn s,p-q-1,?auj (r<=c->?aBD),Ib A ?k,?b7i hb,?b9I (λu=>?asV (?a2t*PB u a) n*P u c),P4 xs k ?r,#[kvs,hz,hx],R.same.free,?atP H' n k,λx c e=>?_,?U ?a46,List.map_id,d.params.defaults=[],qq0 ?_ (by size_fits),HY _ hnb hbk,?b1D ?eP\/?b1D ?iW,?aHM a [op] [b] ?H,?o8 z P G i c,λi=>f i j,?asC (spot<?k),.(by unfold bookF;decide),its.toArray[m],?t y u,qf4 e1,?M->?aYu,?DI n==?eP,?m ?g (qe7 qs5),?b2m 0 i,prs.drop,RU n w A,T ?YD,F.args_zip_next_1 _,?w4 es k ?H,R ?gn ?iG,wpAny_pyNext_list_item,?m p.b0π p.πb,Iz n w k D A l.1 l.2 r.1 r.2 f,Oj xs ?gP ps,fD+bookF,?axl ?ap L,.(by exact ?cu<1;decide),λr s'=>r=w/\?atl r s',?azV u2 D' H,?tH ?aB,(?CJ).2 i d,.(by simpa using ha),?b8i p0,qb0 ?alP ?oI,Ak3 ns,j<l.length,β-δ,∀r c,?ox->?aLG,?asX ?rG ?aT,j<1073741824,Sd H vs ls,¬(?wC=0/\?avV ?aYm),?b8y As0,?di "min",#[kvs,k,v,hz,hx],YW Q x H1,?I nm,?atv ?agQ,#[v,o,ho,hd],?awI n,(?avb ((?b7d e0.bs).1)),?b9I ?afz,?ns it a i,pD n w R B i j,(b4 a ha).2.2,items[i]?,vs++ws,?Nn i j 1 l,?azi (EY.ge k kq2),?auL H0 b,b1.mono ?GQ,show(-0:Int)=0 from rfl,cZ es=?i ns,?ahK I r r',Ar1 K f D σ y x H2,?aNb\/?aKp,Pl X Ae H' b,y1 xs qa,?asT p4,hl n qb9,λd _=>?_,?GK ?y8,#[r,hr,?h],List.length,#[?c6,e,_],let s:=?K5;G s H0,Nat.mul_comm,?auL ?a49 b,.Pass #[0,0,0,0],?axO k,?tZ i2 t2 ?ae,{ s with heap:=?li ?ZY,toks:=tk },h.st.st.red,λc=>?XO,ia.toArray,(?awY D).natAbs,?auf x o',?aut m ?iG,#[n,e,hn,q],((?wx:Nat):Int),?lg σ H1,?cS t i ?aP ?a11 ?ee,Q ?as H,?awR b' R,g3 q u hqw EY xU,g==k,?b6c i,?asp ns.length,x1.natAbs<=B.natAbs,D.TOi1.symm,?i ?Go,?b76 hi (λiv s2 _z=>?_),Zc n w A,(?aym f).toNat,?auy (! ?w (?aB a=?aB b)),∀b o,?sy->b≠j->?Iu,#[?V,?h],.(by rw[e]),?auY (by ext u3;ext a5Y),Builtin.List.listFitsIndex,∀j,?al->?ath ?BZ L9,?auV W M,[?R,u,r],(?a4Y).objs.size,I.ok.noex,(?aC3).natAbs,?au2 e ta,tn 0 ?aA,.(by rw[qe2]),if x=e then ?cu+1-2*(?up%2) else 0,?t k t,VI w (f (n+j)),?aNN h1,eq_of_beq,qb0 hik bl.kw,#[u,w',?h,?dv,?wI],R' j c=?hU,(?atW ((?Hs).toNat)).getD,?b7t Key,E6 ?rs λc s1 _z=>?_,Int.mul_neg_of_neg_of_pos,λc=>?agt,hx k hkn,?awS i c,{ cls:=?cU,data:=?bI #v[?aXB,x] },?ayu ?cy,Nat.log2_self_le ?g,List.take_sublist,Fd e1 e2,?b9I ?zx,∀b ps,H b=?i ?a9x->∃more,?nS=?i (.tbl (ps++more)),F.agr ?G,.(by rw[←hz2];show ?ev),?b8l p4,?j ?I6 ?mK,?asG p5 W2,Walks.range,λh' tk k=>?_,?ayV (?jC (m3 d ?g) ?aKx),Ib A p,[op,op'],PySem.W.handedIn,#[o,e,d],os.getD ?cG 0,?asO H' ({ s with heap:=h',gens:=g',drawn:=d',toks:=t' }),?rj H a ?f5 ?Ul,?m3 a xs,CQ h fs n i,hst.s0.low,?b4t hc _ (λd s1 _z=>?_),?a1->?tB,λb z=>?X z (noA b),?il/\f<40,.(by simpa using hl),(ls.map (lfL φ q)).sum,.set S n,.(by unfold bookF;ext d),λfin s'=>∃r,fin=.done (?jd r)/\Q r s',Int.mul_neg_of_pos_of_neg,An ?i7 e,.(by ext aqV),?avP (by ext aow),?bI vs n,qd6 hj,call_list_seq,qi0 ?g ?g,(?bi hk).1,k3 c hcw,T.obj _ _ st5 b hb,λc=>1*P i c+1*P j c,λc y hc' q=>?_,?asU (g ?a0) n,p.2≠0,In w r R v,let u6:TS:=At t6 u7;?aCB,(?Iz).map,?b4t ha Q (λc s1 e=>?_),?asq hv _,bb.1 r x hr hx,e=x\/H e=?i ?KQ,wpAny_call,?ayI PySem.W.makesIn K C,?b4K Tn,Qg hj,g.typeIs,k0+i,λc=>?gz+k*A q c,#[xs,x,hq,hx],h.good.restB,(?b3t t).objs.size,A73 n W i t s I,0<=q.1,(Pt xs k i j).natAbs,?a78\/?aMG,FW h4 _ _,?b6Q _,?b9K ?vl,?b9D ?a3S,(?nz).toNat,?asR p6,?iI x pos',v7 ?bU X.w ?a7 tg J fp it tn,?b8y Ar6,?tc<=?aT,?IH+g n,true==true,?b1M (k it ?G _ st),?a9 (λk=>f ?F) n,?di "max",λi=>?a3h,?aut m ?bp,?b0k ?Qo,compPost,λi=>r.1 ?acg,l.take ?k,ItDGet2 ty tx σ Q x H1,?asc (f k+-1*g k) n,qc6 hq,EY.pos k kq2,Xx I1 ea c hm l ?_,Str.ofString,?atH (K2.tab j hj ?g),?b8x ?bg,#[a,?aa,h,?alE],?b5o a xs,B j a*?dl,λc h=>h,(?ia).1=1,#[I3,hn3],.Slice lo hi ?aO p2,λh' hen hit hsz hk=>?_,?b5 ?JR,.(by ext arA),π2<=8990,o.getD d,?atF B9 k,?b2G [x],.(by let:=r.length;ext he),atKey xs k,.bl ?UM,QS φ q p,?b9K (Ib A ?dZ),λh' hk=>#[?h,?avU ?k4 (?b9R ?_)],?pE s ci (as.eraseIdx i),λm hm=>hl m (?ay1 hm),Int.neg_dvd.mpr,.(by rw[Ga];show d),?a6 (V × V)->?ar,#[z.1,ht _ _ z.2.1,z.2.2],λk=>?aRV,?i ?amg,wF (?cd xs ?Ve) D,Lat.Straight,?b7d ?abN,2<=n/\n<=4,?b5 [?lb,v],hx k ?aUe,λh0=>?_,?b9l ?aJB,#[o,e,c],Int.lt_trichotomy,?azp v,(?akW).natAbs,?b2l ?aeA,Result->?i5,YX Q vs H1,Heap.SameBut.update ..,if i=y then ?aC else 0,.none_none,?asC (A+1<=-?f0),#[?c6,_,o,_,_,e,_],?asu p xs,q p _ (?a39 hp) (.of Ab),.(by rw[hC];show ?sB),?ayw S,Ws R t j ?zk ?x7,?FA*e.natAbs,a::?X9,1<=?Dg,e0.hok.fresh,λr s'=>r=.ok (?jd ?kq)/\OldK ?qP ?kr/\s'.os=s₁.os/\?Bb,h ?a0 b hj ?g,?b6o p j,v9 n w T Qt,?xQ c ps acc,?atn p3,?asT p5,?iI x np,?b2Z 10,Ct.start _ _ _ _ _ _ _ _ _ _,Good.add,?FG c 0,p*y2-1,?b7J ?p9 (?ZL i),.(by unfold lev at lc;simp at lc;ext d),?fY e h' h3,λc _=>?an8,Nat->?Y->?vo,?atr ?A6,Int.lt_or_gt_of_ne,?asv acc,q.1∈?Rh,X6 CX X E,(one i j).natAbs,Nat->?anH,∀ps∈ls,?aXi,(?a1i).elim,{ D with nx:=N,ct:=N,bk:=D.nx },CE ?e0 P w H s Q u s',?avG p2,?xN ∉ ?DK,λ_ s'=>?b6w SP D (.next),R k ?cH,?b8G n ?zd,Qv.none_of,∀x0 x1,?wh,#[q,u,hqw,EY,xU],?awY ?ex,vs.any ?PP,?asV (?rd*?pH) m,λ_ e=>?Ib,aY hs',this.1.1,?cz ?sR sp[i],λi _=>n<=i,?eC ?v=?qW/\?auL H ?v/\?awZ ?v/\?v ∉ X.fs/\∀v,p.2.data≠?CI v,#[kv',?cc],?asa ?aQ9 sizeLine,lev q+1=lev p,?t (if k then 1 else 0),q.getD i 0,?asG p8 W2,min v.toNat n,let s:=?Zj;?i0,us'.toArray[j],#[h1,λj k a b=>?yG j k a ?g,λj c a b=>?IJ j c ?g b,λj a=>?b8f ?ym,λk j a b=>?Fa k j a ?g],zH xs k p,#[u,hr,h4],.(λc _=>by rw[B4 ne,Bp,Bp]),let u8:TS:=At t8 u9;?aQd,?ayc ?zu,#[kvs,q,?l],Io st,?de hk e1,An ?hE ?g5,?atw i G M,?b20 K2.ker,?ZL ?JK,-?YY*?KE,∀[?c3] (x:V) [?c5] (v:Value) [?j0] (Q:VK),?bQ->?lp->?b5u ?gD (r x xs H Q) (?fB ?Go (v::us)),.(by rw[sizeLine_eq];decide),#[x,hx,ex],.(by rw[ql3,z1]),R0 j ?aF,?kv*φ ?ny,hrep M' e,λa=>p a*?b9l (λb=>?aGY),∀b∈?c9,?akP,?b0t c,Fu π b ?k,?b53 40,c1.2.2.2.1,?kx+1<=n,D.i1z.symm,Ic ?ap u,ft.low f hf,X.A.units+1,wF _ ?rp,?b06 ZC,?asG p4 W2,?ayr sJ,?awc (?b9Y Qa ?akp),?b6Q ?jP,qb4 hn,σ[i]?=?Rk,if ?a1 then T a c else 0,∀l,l<i->G ?cP,?atQ ?mD ?eA PB,O7 kvs [],?bh n [0,0],?kC+?vh*?iQ+spot+3,SD r' tc σ Q y z H3,#[o,es',ep,ho,r],Rk ws fam n layer rows,Dt O H uk ps,λz=>(hch c z).2.2.1 x c e ?h,?af ?_ ih,?ai8=?kI b,?b07 Ar3,?at2 p4 x4 x5,λk=>B k a*R k b,wpAny_Call_method,.(by simpa using rv),t ?jf,.(by rw[Aj (wX b _ z)];show z),#[(λx=>nomatch x),h],qa0 hi',?b8w T j ?cP,?asx p5 x4,?b2G [x,y],?auQ ?ZC e,λb u q=>?_,?awc (?X hp (by simp[G8])),?b5r ?gG ?k,∀i,?M->?Mv,dL n f,if ?xM then Iu ?WW ?o else ?WW,w.length=0,#[x,?aE,rx,q1],qa9 ej,N2 ?h4,{ s with heap:=h1 },?X (show ?auy false from hs) qf5,kS n w,IsItemIter,∀j c,?al->?a40,show ?m3 b ?aCF from pb,(apos.endLine==cpos.line)=true,qk5 _ ?g,?b01 xs.length,(?aBc).2=_,?azZ ob.dict,?awP (ho Ae s2 σ H2 x y v u Q I2 rx ry q),(←?an5 self),(?tF).natAbs,Fin k f l r,∀p∈ps,?Xd/\?a08,∀i u,us[i]?=?c0->i<h/\∃b,u=?bT/\?aUT,.own ?ba,?atW ?XC,Heap.ExtBut j ?aA h',?G0 vl lo,?rb i _ ?tA,#[ia,_,pa,_],λl=>?aw3 (T l ?fz*?wV) l 1,#[c,e1,e0,e2],?bq ys its,∀x∈sc.names,?Pt,?ati r,Mj f z hne,xs++[x],Nat.sub_lt,F.bel f hf,#[w,ew,rw'],?b0R jA ms,newList [],1*?ih+k*R q c,g==f,?XB / ?v,?b2N ?aGn,qo0 hij _,?aSy ?a2N ?aQf=?bo ?ab9,(z▸x.mq),#[?g,?_],YN ?l,?at9 p0,#[?a6v,lk,hcd],O5 kvs k y,Nat.add_sub_of_le,?b7d neL,?at8 ms,.(by simp[S0,qo9,e]),(?bi e').1,vs=[y],W.fnOf ?dL ?hI params ?ti ?sj dV kV doc pm an Dr ct,∃old,?auv h it (((?k:Nat):Int)),?awj m f,(one,one),λi=>?anc ?cx,(?atW ((?Ih).toNat)).getD i 0=?aba ?eF 0,#[?fq,ht,hz],(?bi eg).1,?QU hcb r hr,Reps.inj,H b=?i ?aQF,hk c o n1 n3 n4 n5 e,?b24 L9,?ft->?i5,?Ic ?g ?g _ _ _ _,(a*x+k*y).natAbs,PySem.W.lookIn ?dL od,(?BI:Key),r1-q*r2,λq=>z ?JT,∃o,?awq j,?awO ?eA PB,?y ?cB,(?xs).natAbs,λh' c' kp e=>fin its r' hz h' c' kp e,vs=[x],qp1 lz,#[c,q1,e0,e],.bl (!c),.(by rw[l];show rel.val k),?aw6 H a ?f9,?b4W (?a2k*?sA),step x H5 y5,?y5-?fV,?m ?R3 I.sz,dT n w f,YT ?a7 C m g,h Ae s σ _ _ I' (hw (?aS8 (?x ea)) o),?uv h0 h1,∀l,l<k->T k ?am=0,λi c a b d=>?IJ i c b (by let:=h2 i a b;ext d),?b53 1000000,?b4Q i ?qv,xs.length-?k,?awI ?be,?i od,λhr=>?_,?vr*p.2,#[o,ho,r],"type.__call__",.(by rw[hk];show#[_,I',q]),?aOT/\∀p∈?RL,?v≠b,?CY->?Iu,?cz ns ?v=?qW,#[?j3,?Q,?eM,ne],?b3d p4,yW Q x H1,.(λm' hm=>by ext apH),I.unwish,(?kI a:Key),[?xD,s1.heap.objs.size],?auY ?_,Calls.Name_function_global,Ij.first,h'.objs.size,qh8 h,if x=y then f x else 0,.(by rw[h.a.e1,h.a.e2];grind),PySem.F.entry_dict_pop,Int->?ft,?fL-?fV,bl.fin.br.1,?ayI scal x y,λj _ h=>?g,?awO R B,h p c hp hc,?iV-?uZ,?b5Q ?f5,S0 (p::r) k,?ay1 hy,.(by rw[qa1,?gr,ej];rfl),?awz D D2,jL ?a4o&&?b0b (?OM-1)&&(?w (?OM<2) || Ph xs ?P2),subscriptTail_builtinR,?atn p2,.(za9.mpr λn hn=>by rw[?aG1];rfl),#[?c6,_,o,_,_,e,ex,_],?m3 b ys,hk ps ?c2,?b6A t4,?ei e j c,?t ?v9,∀y∈sc.names,y.2≠?A4,Bo Y [] τ' H' s',?av0 hf,?asS (?Ha*?ET) ?fV,?G0 vu hi,λb=>?_,.(by simp[putF]),ks.map kV,?azl 2,.(by ext aqM),β+d*?UC,(?b9A ?jW),?afb+?kx<cLine,.(by simpa using e1.symm),h _ _ ?lw ?_,g1.extBut ?kn D.i1z,?I ?a3N,callType_new,fs.length<1000,?b4G iter,∀x:Str,?aOV->mb x=?BE,fitsIndex_both,?b1G ?w (q.1≠k),?b7P x y,q::qs,(←?an5 other),#[?h,fin],?kC+?zu*?iQ,eqDs_len,#[d,hd,?h],?b3x (P y b*?aYF),let u9:TS:=At t9 vU;?afA,?ati i,?awY ?jr,?q2*L b d,0<=?jg/\?jg<=e,#[p,u,v,hp,?V,y1,y2],#[ha,hb,h],?auk (?fU=0) ?ad,mV x vs H Q,i<=a/\a<?mK,Int.dvd_add,λp=>?aXM,λj=>?w (?b54 j=k),B p x*R p y,#[f,hfp,?h],?ayZ rel.val k,(?a0B).length,qt9 λi=>?_,?azZ ?gl,I.idict ha,yZ D σ v x y H3,?YF ?h,?at9 S,Meets.of_wp,?awC ?aIS j hj,show 1<=?bS from qo4,?b5h vs ds,Q ?aLU H,?g7/\?cO,zipApart_new a1 a2,?awC bd r hr,(?JF).2.2.1,hp k ?g,?au7 (?iI ?lz p) ?e4,?m p.bπ2 p.πb2,Ii ?F ?a4,A77 i t R,#[hp,g,d,tk,os],∀b∈fp,∃o,?g7/\?i3,λb ps e=>#[#v[],by rw[e];simp],?asc (X l k*U k i) ?vF,?b2N (?M->?ac7),?Jn->?Jn,?a9 ?oL i,#[?ae,?l,?atH (by ext apO),?aH6],?b0p ?nV,jH i*?nR,2+c / 3%3,λl=>f ?Hr,#[x,n,d,a,b,c,e],?Xo j 0,?bq ys ?lD,4*l.length,qe0 hd,?b24 ?jv,Gq ?CO r,.(by simp[sumN]),PT X c tc,.(by rw[qd4];ext d),F.entry_zip_next,λz=>?g,LX H CS p r b ?TH n W s M,?ei e l k,λj y v' e1 e2 e3=>?_,#[j,?Q,?eM,h5],h.step h2,?a1->i<c->?jg=0,?a4D t i s d,?asO H' s2,?WN k0 k0 f,∀b∈ps,?aHL,qe8 rn,?axk i ?aj6/\?b5f ?aN (?Hl+?afB) s/\?abJ,?aYb (lift1 fl) lf,Ii ?F A,i<=a/\a<n,?azl 0\/?ain\/?aJC\/?azl 4,?ayS EE b,?b5 [?aX,x],Nat.log2,?cq ?aVZ (Y8 H' Z),?v=q.1/\H q.2.1=?awH (p.1.map kV)/\?c8 p.2 q.2.2,s1.toks+1,λf' hf'=>?_,?b0f ?o,wpAny_pyIter_range,?axY (by cases hf),I.pins_of,(?atR hj),λk j h1 h2 h3=>?_,#[?e5,[]],if j=i then ?c7 else 0,#[r0,r1],?du n ?aN w n ?eA PB R RB,?b01 kvs.length,EqD X H s d,λm=>xs[i+m]?,?n9 × ?b7t Addr,?bh k xs,?FI / ?fU,λ_ s5 _z=>?_,?b2T M,#[_,d,hd,e],?b7u hc.key,Ak4 wi cap g tc te,?avE qz2 hob hdb,.(by simpa[e1,e2]using hl),e.natAbs.log2<=L,∀a∈?adc,?My,λa=>?pH,At t5 u6,λi _=>?M,λu hu=>?_,(?ahS,?aB p.2),?avl ?a8L,?wM x=?eP\/?wM x=?iW,?au0 wpAny_pyIter_rangeiter st,Int.mul_ne_zero,PI X tg iter wi,(Mu hq).1,?b5S i,?aye ?fs,f ∉ ws,?avR ?aIz,(zt3 ?aA a b).objs.size,?au2 e ty,D j i hj hi,?fc (j:=?gn) (l:=l) ?vG ?g,Fh.mpr ?h,?b8Z f,subscriptTail,i=vs.length,?fX ?bk ?hT ?eW M,λd h=>Vk h,?b5p n,cap.length=N'.length,∃x y,x<k/\y<k/\x≠y/\?iC=r y,?auQ ?iX e,qc9 h2.1.1,h r x hr hx,?a1e=?aW,?b32 lb,?b6u ts,.(by rw[qd4]<;>ext d),?n1 ?P,(?i7).length,qc6 ?aTN,#[n-?k,?V1,?hs],?b07 Ar2,∀(i:Nat) t,?PA->∃kv:?a0x,?avL kvs kv/\H t=?awH [kV ?f1,kv.2],?aM2 hn ?nF,?R::u::more,hst.only,s _ _ (λz=>by rw[z,hb]at h;cases h) h,?b2Z 1000,hk1 _ _ ho1,?j f ?jB,sh.blend,?lq+1,.(by let:=?Y2 k l hl1 hl2;ext d),My h1,Ew n W w i G R0 B0 t π b ?o s.1 s.2,hk1 _ _ hoD,.(by simpa using h3),?a3H N ps ?sj,U4 ws w fam,((?Ui:Nat):Int)-?up,Fd h1 h2,?azT H as f,((?af3:Nat):Int),{ s1 with heap:=?x5 ?Sg },qc9 h2.1.2,?I fa,?aw5 (V.str b),op≠.In,D q j hq hj,?o8 z P G i a,e.hash=?aEd,?K1<=?kx,y.natAbs*?qk,sumN_fst,let u2:TS:=?aNk;?aZz,fdiv_small,?EX i ?yd,?auJ p0,(n,v)::r,?ayc ?vh,?a9 f' l,ms.filter,call_range_1,?az4 (R i) (B j),VH ?e0,?asC (?xS=?oR),#[_,c,hc,e],i<kvs.length,?b8j p2,?Ii x=?y1,Y k d f l r,[v,ov,iv],Bu1 g x y H Q,.(by simp at hk';ext d),?aDd i ?be,?ef+1,.(by rw[←hB];ext a6M),?b4e ?gE,?x hk,?b1j p,λi H=>∃kvs k v,?uk/\?tO,?jh::?nZ,λ_=>?tV,(A i c).natAbs,let s:=?a24;G s,?b4G ?Z4,I.ok.exfs,H.hd l h2,(f::fs).getD,?b9K ?abw,insAt_get,?xN+2,F.slot_int_rmul,?ayF ?aEz,e' j _ ?g ?tR,?b1n ?a1D,?v≠0,?asL ?ab (?Te ?mC),∃p,Z2 k w r.1 p,bindArgs,Q ?p4 H,IsD H1 a,ds[j]'(?JP l1 (?r7 l3 jS)),?b9a i i,?atR hne,.(by rw[I.ok.glob];show ?aI6),ms.any ?nQ,ms[i].1.toNat,ns.length,s.heap.Ns ?Ef m,(?b3X bl),λi=>f ?eN,?aw5 (?aB b),.bl ?Nz,dd.mapOf,?a2j->((∃l,o=?b5 l)\/∃l,o=.dK l)->H' c=?Z,Builtin.Dict.addrOf,?azv ?aX1,([]:?Nx).length,.(by unfold Iu;rw[Bp];ext d),?Tm f,λc hcw hne=>?_,(?bi e1).1,mU xs H Q,Qt (u k) k,?au0 za3 (st.1),b∈X.fs,#[xs,ys,x,y,aW,UC,hx,hy],?a2->?ax,?ass (?aP-r=?vh+1) qs8 mX,.(by rw[e,eb]),qe8 mw,#[xs,ys,xs[i],ys[i],qa,qb,?hB,?hB],.(by ext aoU),?axb h3,∀σ' H',?aVy->u D σ' H',λ_ s'=>NP X Ae Q s',?b4G (?au7 (?je e m ?jc) ?jb),(2*a).log2,?asU (?kv*?b7R (u a*?aJy)) n,?iN ?fb i ?vX ?k,?asc (?Yp*?oy) n,YV Q x H',?ay1 hv,An (?b7J ?dg u),?axo v d,Pm ?iT t.1,.(show ?vq by show ?a4J),?qF UInt8,(?xU).getD,#[o,e,_],let u2:TS:=?aNk;?a9D,D.s0.pos,λl=>?x2,tr T',?adl n w M',I.base.there,?cv ?i e,?auL H0 r,?b2T R,λk=>a k*?Dx,?X (show b∈([]:?cC) from z) ?G,as.drop k,h'.DictOf,?awC zero j hj,As3 K n t v σ H Q,(fam:Int),.(by have#[o,?mr]:=id g;have#[p,p1,_,m,p2]:=gt;unfold Builtin.SmallTypes.nextOf;apply ?q (?qL (name:=?zE) ?acf qs9 (qo7 qs9 ?acf F.entry_tuple_iterator_next ?_ (F.args_tuple_iterator_next_1 _)));exact ?asN (?oE ?D3 0) s;apply ?q (qk0 q1 q3 (x:=?dn) ?h ?_);exact ?atE _ (if ?aSO then _ else _);rw[?s (show ¬?aSO from qf5)];exact ?asN (?oE ?D3 1) s;apply ?q (qk0 q1 q3 (x:=?t n 0) ?h ?_);exact ?asN (seqItems? ?dn) s;apply ?avE qq8 p1 p2),.(by intro Ae s σ H xs us Q I r h;let#[p,bs,?gf,q]:=h;let ?tC:=?rx;cases ru;let ?IU:=?gI;let hh:?Hy:=?dH;(let rel:?ayy (∃b,?xU=?Dl/\v=?UK):=λi v e=>by ext ap2;ext LX;(let hb:?xU=?i ?aQn:=?hB);let ?kL:=?axK V.bl ?aQn;rw[e']at hu;cases hu;show#[_,hb,ru])),.(by exact ?asN (?a9p ?mC) _;apply ?iR;unfold Builtin.SmallTypes.ownedTupleIsFree;apply ?at1 gz ?aS ?ey;simp only[if_true];apply ?Tp;apply ?at1 gz ?bT ?_;apply ?ay8 gz (λk1 gz1 w1=>?_);replace gz1:?avf k1 ?CS:=gz1;apply ?iR;simp only[List.zipIdx_cons,List.zipIdx_nil,List.forIn_cons,List.forIn_nil];apply ?b6U ?q),.(by apply ?aMV;rintro i m ys τ H ⟨rfl,hi,p⟩;let q:=?b1U ys p;cases hlt:?lC;{apply ?auc ?DJ ?Rl;let ?Ia:=y;subst e;show hs i x ys τ _ ?JA p};let e:?Da:=?g;subst e;show ?b0l ?It ?aFy),.(by apply ?aVv;rintro i m σ H ⟨rfl,hi,p⟩;let q:=hl i σ H hi p;cases hlt:?lC;{apply ?asm ?DJ #[?ahs,?g,?hs];let ?Ia:=y;subst e;show hs i x σ _ ?JA p};let e:?Da:=?g;subst e;show ?b0l ?It ?aT4),∀(hbase:?atv (?b8Y ?dL)) (hfew:?atv (((?oq ?gN ?Np).all ?aH3&&?b59 ?Yw && ?w ((?ez).length+?an7+?aH5<30))=true)) (hline:?aaI) (hs:?Jh),a,.(by apply Fp λhm=>he ?_;let ?aah:=?zZ;(let hcb:=Ks hs (k:=k) (ms:=?iX) λq hq=>by let:=Cn (Zp hq).1;show#[?oB,?xX,?C4]);let h1:=?ahJ;unfold Kd at h1;rw[qc2]at h1;let h2:?auy (?HP&&?w (?Gj=?dg)):=?lW;rw[qc2,qc2]at h2;show ?aMQ),∀(hs:∀i x ys τ H p,?dk->?hv->?bZ->g ?aK τ ?aQY ?Pm) (hd:?SL),a,∀(hbody:∀(Dr:Value) [?a5q] [?ch] (Q:VK) (E:XK),?ave ?Ji (SA (PC Ej P w K mg ?dG N ?hI ?Ji f Dr A ?e0 s H E).nox ?afD t)),a,.(by unfold Builtin.Dict.dictSlotArgs;apply ?q (?axI zb3 ?RP);apply ?Sn;apply ?ey;apply ?q (za4 (T:=?lJ) (b:=true) ?a4M isSubtype_dict_dict ?_);rw[?yL];apply ?b6C (?q (qc6 (?avE Yp ha hb)))),∀(hs:?b4q ?Pm) (hd:?SL),a,∀(hs:?b9f (g ?aK τ ?Kk (?awL te ?aV8))) (hd:?aAK),a,.(by exact ?asN (?oE ?mC 2) _;apply ?at1 gz ?K3 ?_;exact ?asN (?oE ?mC 3) _;apply ?at1 gz ?R ?_;apply ?avE qq8 ga ?h),.(by simp only[sliceBounds,HT.sIx,Option.getD_none,show ?c7 > 0 by decide,if_true];cases h:i<0;{simp only[h,if_true]<;>ext d};simp only[h,if_false]<;>first | show zn3 h | show zn2 h | ext d),.(by(let hp:(keyPart u).isSome=true:=by cases k with| inl i=>let#[t,q]:=(?aur ?X4);subst q;rfl| inr x=>let#[t,q]:=(?aur ?SF);subst q;rfl)),.(by apply W.item i s _ _ hg st λv h' tk hv st' kk=>?_;let ?dv:=hv;let I1:?aO8:=?EI (?b7E (kk b o ?e1 e)) f0 f1 f3 f4 f5),∀(hs:?b4q ?aLF) (hd:?SL),a,.(by(let b:=IJ (f:=?I6) (m:=m) (h:=?ic) (j:=j) λk hk=>by rw[qb7];let ?H1:=P.red k j ?a5 hk hj;show qh0 (ih k hk (qd8 hk hj)) ?aU8)),.(by let h1:=dJ (xs:=xs) (k:=?p9) (u:=?e6 ?fL (?ES).1 ?EN i) (c:=c);rw[?aYs]at h1;show ?A5 (?aD8 bj.fin.dg ?aEY hi hc)),.(by apply(?avz kvs.length ?H7 ?aOa);rintro i m σ H ⟨rfl,hi,pp⟩;let q:=?a36;cases hlt:?amI),∀(hs:∀i x y σ H p,?dk->?zg->?avx ?Kk) (hd:?aaK),a,.(by(. let ?a1q:=pl;show ?a1w);{show ?b1R ?lV};{intro i v s' Q' E' hv hQ;let#[b,hb,?h]:=rel i v hv;dsimp only at hQ;rw[hb]at hQ;show qo1 hQ}),.(by rcases h with(h|⟨o,h⟩) | h;{show ?b6B ?a8s};{show ?aud o ?a8s};show ?kD),.(by intro hj;let pj:=P.pos j ?a5 hj;let hs:=?ayF h;rw[?ui (j:=?a0) ?g λk h1 h2=>by rw[?UR k _ ?a5 h2 (P.inc j k ?a5 ?i1 h2)];simp]at hs),.(by rcases h with(h|⟨o,h⟩) | h;{show ?b6B ?ald};{show ?aud o ?ald};show ?kD),.(by intro i s acc hn hi hz hd hit hb k;apply codeAny_builtin aF ?_;rw[Around.under_plainId N8];let hLs:s.heap.IsList l ?lh:=let ?ahx:=hL;#[o,hb _ _ nld nli ho,r]),.(by let ?ake:=H.part.red ?o l ?a5 h1 h2;rw[←?aWR,←?Ou]at r1;rw[←?aWR]at r0;let p:=?bn l h2),.(by intro Ae s σ H R I h;apply ?atu ?Xc ?N0),∀(g:?yx)(K:?aBG)(s:?akf)(st:En ?aN n R t)(tab:?EG)(ker:?asz ?aFa),a,.(by show wpAny_pyNext_range_end ?dH st (by let:n<=i:=hg;ext d) ?WY),.(by let I1:?a0U:=?auI (?b7E (?aIn e));have ?a21:=id st'),.(by let hi2:=?anB;rw[qb6,qi3]at hi2;let ei:?alH:=?g;subst ei;rw[?qq,qk3]at e1;rw[h0,?qq,qk3]at e2),∀(hs:∀i x σ H,?dk->?da->?b5y x) (hd:?aht),a,.(by let#[x,?aE,r1,d,o,kvs,ex,hz,q]:=_z;subst ex;obtain rfl:v=?jL d:=r1;have#[ho,hsys,hl,vs,?az,rel,hd,hsz,exd,hm]:=q9 I1 hz),.(by let I3:?qd:=I2.call' hos hun hok hbare (Bo.fpCh f2);let f3:Pl X Ae H' C:=I2.fpOk hC hHC;have#[_,k1,_,k3,k4,k5]:=f3),.(by cases e1:r<s;{rw[?un]};rw[?eu];cases e2:r=s;{rw[?xw,e2,show i=s by ext d]};rw[?lv,?z]),.(by first | rfl | simp[Around.under,Code.weight,Code.isCreation,Code.isGuard,Code.isCaller,Code.frames,Code.isFrame,guardIds]),.(by(let:(?n0:Int)<=((?rA:Nat):Int):=by rw[Int.natAbs_of_nonneg ?Gf];exact_mod_cast q);exact_mod_cast this),.(by apply ?Os;cases e:l<k;{rw[x0 l e];simp};rw[?azb ?oe ?aDs];simp),.(by show(?bL b u q).stay ?Cl ?Tf ?Rp),.(by(. show#[1,by rw[z];ext d]);let#[g,hg]:=ihm ?g;show#[g*T m ?x7,by exact ?a2h*T m ?x7=_;rw[hg,qe9]]),∀(p:?aiU)(hA:?auj (?a1->?amY<=?Ga))(dets:?a9H),a,.(by have#[k1,k2,k3,k4,k5]:=of5 k;show#[k1 _ hz,k2 _ hTI,#[u,v,k3 _ hTO],h1.at λo q=>k4 o q,h2.at λo q=>k5 o q]),.(by rw[e]at e';cases e';rw[d]at d';injection d' with d1 _;let:its=its':=?b6g (?cv Array.toList d1)),∀(pa:PlainAttrs T)(slot:Slot T ?dL id)(hty:typeOf ?Go=?bo (?cV "method_descriptor"))(hm:MtR X id r)(ho:?aAp),a,∀(mu:?aL1)(he:?aca)(k:∀b u,?sy->?Ro)(heo:?aUB),a,∀{x qual:Str}{st:Stmt}{f:Addr}{fd:FuncData}{N ps:?bM}{k:Nat}{sp:Sp}(F:?aWu)(S:?a3H N ps ?Ji),a,.(by let h1:?b79 (?awT ?dx (An (Dd (?X7 ?afZ)))) (u j):=by rw[hb,Ve hj]),∀(hs:?hN)(h0:?avZ st ?tB)(h1:R i st≠0)(hW:st<W)(hG:G st)(hpg:?ND)(hex:?Cs),a,.(by let z:?b6I q:=λw=>Hl hp hq ne ?af9),.(by(let zb:?tP+?aP*?fK=?Jj+π+1:=?GO);rw[zb]),.(by exact ?q1*?SA+?K8*?b0f ?gn=0),.(by show#[r,?g,b,?av2 (by cases q:j=m;{rw[q];ext d};show c j h1 (?de h2 q))]),.(by(let hi:?oD:=by cases h:?oD;{show h};unfold Lat.numAt at h1;rw[?ad]at h1;ext d)),.(by exact ?asN (?oE ?gK 2) _;apply ?at1 ge ?D3 ?_),.(by have(?b2z hrep):=x.ob;have#[?Mq,lx,ly,f]:=x.li),.(by let#[c,hc,ec]:=qg8 hp;(let e1:?aNa c 0=p:=by rw[qa1,qa0 hc,ec];rfl)),.(by(let ntr:∀c o,?a2j->?aUH:=λc o e hm=>?aJP)),.(by let e0:EuA A B A 1 0 B 0 1:=?aAm),.(by let e:=pN (w:=w) (n:=n) (f:=f) (g:=?aGC) (h:=f) ?ib ?ib),.(by let f1:?c7-?f0*0=x2:=?g;let f2:?cu-?f0*1=y2:=?g),∀{q:Program}{loose:?bM}{XP:?gu->?wO}{YP:World->?wO}{d:DefRec},a,.(by rw[qc2,qc2]at h2;show K6 ?alO ?alv ((?a7x).trans ?g)),.(by have#[σ3,?et,n3]:=q3;have#[m',hm,w3]:=hN σ3 H3 n3;show#[m',hm,σ3,?et,w3]),.(by unfold beside;split;{rename_i h;show ?b7c hT c h};show ?b7c hP ?GZ ?g),.(by cases h:?adM),.(by have ?aci:=hg;have ?qX:=?oT;have ?kL:=?o2 hx),.(by let e2:?awB (op==CmpOp.NotIn):=?awE h2),.(by rw[show ?a4E=0 from ?azb ?X0 EY.mono];simp),∀{a b:Addr}{ms ns:?i4}(ha:?pz)(hb:?D2)(hu:A.units<cLine),a,.(by(let e':its[i]?=?aW:=?cw);let hlt:?aYw:=?ah9),.(by(let g0:g≠0:=by let:=h.pos;ext d);(let k1:?qZ=p:=?a7d)),.(by have ?aci:=hg;have ?qX:=?gI;have ?kL:=?o2 hx),.(by let e:?aV1:=?g;subst e;show ?b0l ?afC ?Wt),.(by let hj:=?a0a;rw[t.len]at hj;let ?cR:=?aG4;rw[h2]at e;cases e),.(by subst ey;cases ?aVB;have ?aVW:=?Zv),∀(hi:?aWo)(hx:?W ?a0i ?aQH),a,∀(hr:?d3)(hst:?yT)(hz:?yJ)(s2:Fs w n ?anh ?yY),a,∀{a:Expr}{ta:TA}{p pos:Pos}(hg:Gl X ?jw)(hm:?auL ?fr ?jw)(ha:?X6),a,∀{x y z u:Int}(hx:?b3F ?G1)(hy:y.natAbs<?G1)(hz:z.natAbs<?G1)(hu:u.natAbs<?G1),a,.(by let#[x,H5,I5,r5,y5,st5,fr5]:=_z;let I5':=I5.pinned (NI fr5) (T.obj _ _ st5)),.(by(. rw[?nk,?nk];show ?ik);rw[?xK,?xK];show ?ik),∀(hs:?atv (?b8a (?i ?acv))),a,.(by let e1:?awB (op==CmpOp.In):=?awE h),.(by let hu':?aVG:=by simp only[dep]at hu;show Ar.arn1 hu),.(by let#[o',es',ZM,ho',r']:=hm;rw[ho]at ho';cases ho';show#[_,es',ZM,hL,r']),∀{a b:Expr}{ta:TA}{p pos:Pos}(hg:Gl X ?lz)(hm:?auL ?fr ?lz)(ha:?aJO),a,.(by rcases h with h|⟨hB,e1,e2,e3,e4,e5,e6⟩|⟨hB,e1,e2,e3,e4,e5,e6⟩),.(by have ?aYW:=x.ob;have ?Ew:=x.rw;have ?P1:=x.bk),.(by let hl:=r.length;let hn:=iX;let fin:?atl w s:=#[z,H,I,rw',q]),∀(h:∀{N:?ax},(∀σ' H',?aVy->?BP)->t { D with nx:=N } σ H),a,∀{to:TE}{t:TA}{name:Str}{apos cpos:Pos}{T id:String}{r:?rN},a,.(by cases q:j=m;{rw[q];show z};show b j (?r7 hrm (?de hj q))),.(by let#[a,vs,?h,ha,q]:=h;let ?a54:=bM r;cases rt;cases rx),.(by rw[Hl (p:=j) (q:=k) ?g hk hne ?aRt,qe1];rw[Bp,B4 hne]),∀(s:∀c o,?wN->?an4),a,.(by apply ?aH9;rcases ?KS with z | z | z;{show ?ne}),.(by subst e;have ?a21:=st;show#[o,e,?aJN]),∀{i:Nat}{T V Z:Mat}(h:?b64 i (c<i->?nA=?asU (T r j*Z j c) ?c1)),a,.(by exact ?asN (?Xz ?z6) _),.(by let ht:?nx ?gK ?jw:=?aZ5;unfold pyNext),.(by let hu':?air:=by simp only[dep]at hn;ext d),.(by rw[Vb hl];let z:?awB (ds.length==es.length):=?acA),∀(X:?x8)(I:?aDP)(hg:?b0w ?dL),a,.(by intro _;show#[0,?l,?lZ,λj _ hj=>?g]),.(by let e1:=a2 hlt;rw[htk]at e1;let pk:=?I2 k hlt;rw[htk]at pk),.(by let hl:?asp ?ajQ:=by let:=Ua kvs k v;ext d),.(by(. rw[?cF,?A ?lL]);rw[?iE,?s ?rC]),.(by(. rw[?b1,?A ?cT]);rw[?e9,?b0o y.symm]),∀(hs:?aOg)(pl:?age)(pu:?aij),a,∀(d it:Addr)(o:Obj){es:?Hj}{ep:Nat}(hd:?yv),a,∀(hc:?aZK)(Ob:?aY5),a,∀{n w:Nat}{A Q T P:Mat}(h:?b65 (?f6=?atN (P k) ?os)),a,.(by have ?aUC:=?eE aW;have ?aBV:=?eE UC),.(by let he:0<?qp:=Dx (?atH ?HL)),∀(hM:?auX W ?a83)(hD:Su n ?Uy M D),a,∀(hl:?atL ?H7 ?uk),a,∀{c:Addr}{m:Ms}(h:?Sm)(e0:?wN)(e:?auH m),a,.(by(let e:?Eh=?rD:=?aCg)),.(by let hu:?atm ?afZ ?nJ:=?a4H),.(by rw[←?eU,←?eU,←?eU,←?eU,z u,z v]at e0;ext d),.(by have ?aUC:=?fZ aW;have ?aBV:=?fZ UC),.(by let ht:?nx ?mC ?lz:=(?b6t gz);unfold pyNext),.(by let t1:?atr (?ip t i ?eY j=?aF):=?atH ?nk),.(by let ?eO:=?cD hn;let:=?aXn),.(by rw[(?Dh).2]at hp;cases hp;let ?eO:=?a1r),.(by apply ?iR;unfold Builtin.SmallTypes.ownedTupleHandOut),.(by rw[e0,jJ _ hk,?ak (j:=k) ?g ?U0]),∀(hl:∀i zs τ H,?ec->?jX->?aGc),a,∀(hl:?avW ?ec (?fO/\?YU)),a,.(by have#[n1,n2,n3,n4,n5]:=Ax3 hc;show ?ahM),.(by let hfresh:?y3:=?kS),.(by let#[o,q,_,d]:=g;show#[o,q,?aJN]),.(by rcases g with⟨kvs,k,e,ey,l⟩|⟨kvs,k,b,e,ey,eb,l⟩),.(by unfold pD at this;rw[←this];show ?aub (by rw[qu4])),.(by let hf:?auL H1 ?oP:=?OO),∀(hcd:?b5j "__classdict__"),a,∀(h:?b7A m ?aK2),a,∀(hcap:?aAx)(hi:?al4),a,.(by let pcl:∀j:Int,?azs j<=40:=λj=>?Y8),.(by let#[a,b,ms,ns,?V,ha,hb,q]:=h;cases rx;cases ry),.(by rcases Eg hv with⟨j,u,rfl,rfl⟩|⟨y,u,rfl,rfl⟩),∀(h0:?b5P v),a,∀(hn:?W (?atm ?U6 n) ?aJ),a,.(by cases y<;>show ?agL),.(by have ?kL:=ra.get hx;have#[v,hv,rv]:=rb.get hy),.(by intro hm;let#[r,a,b,c]:=?ce;cases z:?x7<w),.(by let#[t1,t2,_]:=XR I1 d;apply#[t1,t2,?_];rw[m.trees]),∀(hl:?auN ?lx ?fO),a,.(by have ?aCp:=hg;have ?qX:=?oT),.(by intro value slice Ae s σ H x y v u Q I rx ry h hs),.(by rw[Li,?asC (?b8O ?amg ?wU),J6]),.(by rw[?gs ?o c ?l hs];show ?awC H.rw ?o hs),∀{S:?KB}{NE:?aK5},a,∀{i j:Int}{m n:Nat}(hi:?uW)(hj:?ak2),a,.(by have#[?as3,hW]:=h2;subst e),.(by have ?aCp:=hg;have ?qX:=?gI),.(by(ext a5l)),.(by let#[z_,L_,G_,?a6l,ti,_]:=bk.tie),.(by rcases Eg hb with⟨j,u,rfl,e⟩|⟨y,u,rfl,e⟩),.(by show(?aGF).2.1),.(by unfold Ay;rw[?z,?SV]),.(by have ?aKT:=x.ob),.(by rw[?CX,?CX]),.(by subst e;simp at hk;subst hk;rw[ql7 ?l,qc8]),∀(hg:?s2)(hm:?a29)(hv:?BE=?c0),a,.(by rw[qa6,?gr]at h1;rw[qa1,?gr];show ?yj),.(by rw[←qf2,←qf2];show Ee (by clear hz2;ext d)),.(by simp only at hc hd hc2 hd2;subst hc hd hc2 hd2),.(by simp only[qb6,qc3,qi7,qd5,qj9];show Ar.arn28 h),∀(g:?aKg)(gt:?Na),a,∀(hl:?atL ?lx ?gv),a,∀(hl:?atL ?lx ?fO),a,∀(x:p7) (x:p8) (x:p9) (x:p10) (x:p11) (x:p12) (x:p13),a,∀(hst:?aCa)(hz:?agw),a,∀{g':?qF GenState}{t':Nat}{d':Drawn}{ch:?cC},a,.(by cases (show ?Pq from q)),.(by let#[la,lb,e,#[xs,aW],#[ys,UC],q]:=q1;subst e),.(by let ?sN:=(?au1 ?X4)),.(by let ?sN:=(?au1 ?SF)),∀(h1:?Ev)(h2:?a5B)(h3:?F3)(h4:b0<=b),a,∀(len:?Tw),a,∀{l:?L0}{acc:?oM},a,∀{pl:?CC}{Q:Value × ?b4->?i5},a,.(by apply ql4 a (qf4 λy=>?_);let:=c r ?l y),.(by cases (show ?aC0 _ _=Data.cell v from q)),.(by exact _=?a1Q*?dd*_;rw[qe9]),.(by exact ?asN ?a2Q s),.(by let e:?aIC:=?e1),.(by let z':?Pq:=z;cases z'),.(by rw[Aj (?b9X h hn)];show h),.(by simp only[qy0,Option.some.injEq]at e;subst e),.(by unfold insS;cases z:?xM),.(by(. rw[Hl hx hy ne ?aN1];show ?a5)),∀(ha:?b6S n)(hb:n<=ys.length)(he:NE xs ys n),a,∀(k:∀b u,?aDG),a,.(by apply ?b4t hl _ ?yX),.(by let d1:?iB∣ ?dd:=#[x k,by rw[e1,qf8]]),.(by let hx':=hx;let ?XR:=hx;cases rx),.(by let hz:?a0C:=?Xm),.(by let#[o,I']:=I.freeze ea;let hb:=I.notfrz ea),.(by rw[Aj ?aQx];show e),.(by rw[Aj (λz=>by rw[z,e]at n;cases n)];show n),.(by show I2.fpOk ?l ?aNH),.(by show qc0 _ (ih (λy hy=>hn y ?aiS) h)),∀(hp:PassesOwn ?a3 ?a4 ?T ?aQ),a,∀(h0:?aZ9)(h1:?yb=?dl),a,∀(h:X4 n w r E L m e A T P PB Q QB kl kr hl hr),a,∀(h:?axs Kb),a,∀{w n:Nat}{R:Mat}{u v:?J}(hu:?aPy),a,∀(f3:?auS H0 r2)(f4:?auS H0 b2),a,∀(hp:p<lo)(hm:m<=lo)(hn:?BR)(hpf:p<f\/m<=p),a,∀(r:?xi),a,∀(x:?aQW),a,∀(hd:?awI ?v9),a,∀{fl:Ms}(h:?lB)(hf:Dh fl)(g:?ds),a,∀{n:Nat}{f g:?J}(h:∀i,?M->?aC=?n3),a,∀{qual:Str}{scope:Scope}{f:Addr}{cd:Value},a,∀(h:?l8)(hz:?qc),a,∀(x:?atP H n k),a,∀{Z:?gR}{p L R dn:Addr}{h w B:Nat},a,∀{q m z w k E:Nat}{D L G B P PB Q QB:Mat},a,∀{A0 A1 A2 A3 A4 A5 A6 A7 A8 A9 sP:Type},a,∀{g a b:Int}(S:?GM ?aC ?bR g a b),a,∀(hp:p<lo)(hq:q<lo)(hn:?BR)(ne:?nu),a,∀(σ':St) (H':Hp) (i:?aPK),a,∀{h':Heap}{Y:?lr}{T:?wO},a,∀(gx:?NR=?d7) (gy:ys[m]?=?hG),a,∀{j k:Nat}{C:Addr}{ps:?bM}{sp:Sp},a,∀(Pv:?CP)(h0:?aKs),a,∀(h:?axG i ?Uy),a,∀{A0 A1 A2 A3 A4 A5 A6 A7 A8 A9:Type},a,∀{CL CW:Addr}{H0 H:Hp}{p L R nm:Addr},a,∀(h:?afG),a,∀(he:?aCb=q*?aGj),a,∀(hg:?atv ?s2),a,∀(n w D π β π2 β2 b2:Nat)(A:Mat),a,∀{p:?Pe}{r:?p1}{k:κ},a,∀(h4:b0<=b)(hβ:b<β)(hβ2:?VV),a,∀(hη:?asz (?lO<=?rA)),a,∀{z m w:Nat}{L T B:Mat}{p:?Y},a,∀(hb:?a8U),a,∀(hd:?b70 n),a,∀(hd:?aaK),a,∀{A0 A1 A2 A3 A4 A5 A6 A7 A8:Type},a,∀{cells:?oM}{x:Str},a,∀{n w D:Nat}{A:Mat}(h:?aVM),a,∀{tg elt iter:Expr}{ifs:?dD},a,∀(ha:?a9J)(hv:?aNY),a,∀(hi:?aKL)(hj:?ahN),a,∀(e:?b0=?Fm),a,∀(hh:?aTc),a,∀{X:Cx}{a b c:Expr}{ta tb tc:TE},a,∀{p:BPart}(h:?lB)(hp:?Xd),a,∀{vl vu:Value}{lo hi:?fA},a,∀{X:Cx}{CX:ZI}{k:Nat}{f C:Addr},a,∀{ms ns:Ms}(h1:?fv)(h2:?uU),a,.(nomatch it,fp,tn,J,H2,e,I2,T,st2,f2),∀(H:?OW),a,∀(dl:?ahW),a,∀(h:?avM EuI r2),a,∀(h:?aTR),a,∀(hg:?s2)(hm:?I3=?c0),a,∀(hm:?Yg),a,∀(hn:?aNM/\ys.length=n),a,∀{x qual:Str}{st:Stmt}{f:Addr},a,@(show ?a by ext d),@((?a).go i H/\∃N:?ax,?fx/\∀x H',(?b).yld i H x H'->?g8),@(λvs H Q _=>?a),@(A0->A1->A2->A3->A4->A5->?a),@(?a x0 x1 x2 x3 x4 x5 x6 x7 x8 x9 ?b),@(∀σ H,?a->?ac),@(?p ?a3 ?a4 ?a ?b ?aQ s),@(λσ H Q=>?a σ H λx H1=>?b),@(At t1 (At t2 (At t3 (At t4 (At t5 (At t6 ?a))))) D σ H),@(?p ?a A ?b Q E s),@(BB n W C δ ?a ?b),@(?p _ _ (?a>>=_) _ _ ?b),@(Bo X Ae σ ?a ?b),@(U3 ?a g ?b te D Q τ H),@(∀σ,?a->?bG),@(?a  x0 x1 x2 x3 x4 x5 x6 x7 H),@(?j (λi=>?a) ?b),@(?a x0 x1 x2 x3 x4 x5 x6 x7),@(?j (λj=>?a) ?b),@(?j (λa=>?a) ?b),@(Fz X ?a (λxs H Q=>?b)),@((?a).natAbs<=?b),@(λσ H R=>ta σ H λvs H1=>?a),@(g x σ H λσ1 H1=>At t1 ?a ?b σ1 H1),@((?a).length<=?b),@(WX K CL CW H0 ?a p L R nm n w ?b l r ?c),@(?j (λk=>?a) ?b),@(λr c hr hc=>?a),@(?a Ae s1 σ H1 ?b I1 q1),@(?a->?b->Prop),@(?a λi c h1 h2 h3=>?b i c h1 h2 h3),@(?a8 K H ?a ?b),@(λσ H Q=>t σ H ?a),@(Ew n W w i G R0 B0 t π b ?a ?b ?c),@((?a).stop i H/\?dj),@(?i (?U ?a)),@(?y #[?a,?eg,λσ' H' p'=>?b,?h0]),@(by cases d with| non=>show h| bl b=>show h| int i=>show h| str x=>show h| tup ds =>ext pW;show ?a| lst ds =>ext pW;show ?b),@(wF φ ((?a).getD ?jj [])),@(?a<=sizeLine),@(?a Ae s σ H ?b I h),@(?cu+sg 0*Pm (?bA a.toNat []) e+sg 1*Pm (?bA b.toNat []) ?a),@(show ?a by show ?b ?c),@(?j (λc=>?a) ?b),@(SqL K H ?a ?b),@(wF φ ?a),@((?a i ?b).natAbs<=?c),@(?a x0 x1 x2 x3 ?b),@((if ?a=?b then ?c7 else 0)=0),@(∀j,?cA->?aU->?a),@(λx y H Q=>?a),@(?q (qk0 ?a ?h (x:=?b) ?h ?c)),@(?a x0 x1 x2 x3 ?b ?c),@(by intro m;induction m with| zero=>intro h;(ext d)| succ m ihm =>intro h;cases z:?a=?ae;ext aoY),@(v7 P w K tg ?a ?gO it (λi h=>?b)),@(?a  x0 x1 x2 x3 x4 x5 x6 x7 x8 x9 H),@(∀p,?a->Q ?aK (?C ?b p ?c)),@((sc.names.map λ ?nN=>if (k==?A4&&osc.kind==?t1&&?xg n==?eP) then ?Zm else ?nN).lookup ?v=?a),@(ChL xs k ?a),@(?a x0 x1 x2 x3 x4 x5 x6),@(?D n (Cc ?a ?b ?c)),@((?g2 ?a ?b).trans ?c),@(?a λ_ _ _ _ _ _ _ q=>?b q),@(∀l,?ld->l<i->(?bw R ?o i x y z u ?a ?am).natAbs<=?fR*(?bw R ?o i x y z u l ?am).natAbs),@(?p _ ?a ?b _ _ s),@(?a xs ?b z k0 L G f l r),@(∀h',?aUL->?a0T->?sp=?i { cls:=?cU,data:=?bI #v[?t n ?lP,x] }->?F4 → ?abE->Q ?a ?Xq),@(λj hj=>?a),@(s (if y=0 then y0 else if y=y0 then ?a else y)),@(?q (m:=Builtin.Tuple.tupleExact _) (qq0 ?a qZ)),@(fr _ _ (λz=>?a ?zq) (λz=>?b ?Kp) e),@(∀i σ H,?a->?da->?b),@(∀(k:Nat) [?hh],?a[k]?=?tE->?dC/\∀f∈?ck,?qV\/?b),@(Sw n w A ?a ?b),@(?a<s.heap.objs.size),@(Wy K ?a tp nm r1 D1 D2 b2 ?b w ?c f l r),@(Ct n ?aN w r i ?a ?b ?c kt hd t s.1 s.2),@(λz=>?a ?cT),@(by subst hK;show ?a ?b),@(X.s₀.heap.objs.size<=?a),@(?q (?C9 (?qL (name:=?zE) ht ?a ?b))),@(?du n W w lo R B ?a ?b),@(?bA ?a []),@(∀x0 x1 x2 H,?rr->?ue->?a),@(Ag λa _=>?a),@(FE n W w i G R B t b p ?o μ ?a ?b ?c),@(∀c,?a1->?a),@(λt1 Y R1 B1 R2 B2 I1 D1 j hj=>by let:=(?a I1 D1).headD ?iY ?b ?ana;show le9 (?m ?P ?c) ?g),@(by rcases h with(h|⟨o,h⟩) | h;{show ?x (?x ?a)};{show ?x (?y #[o,?b])};show ?kD),@(by rcases Gz (l:=xs) (i:=?a) (d:=[]) with z | z;{show h4 _ z};rw[z];show ?a5),@(Vr X ?a (rI0 λi j=>.bl ?b)),@(#[?bV,_,?ij (t':=s.toks) (o:=?a) ?D4 ?l ?_,?h,?b]),@(X.env.scope.names.lookup x=?a),@((?a).natAbs<?b),@(show ?a=0 by ext d),@(qt0 ?a ?dX ?b k ?l4 fin),@(go ?a ?h),@(EP X Ae σ Q ?a ?b),@((?a).length=?b),@(?a  x0 x1 x2 x3 x4 x5 H),@(λhn=>#[_,x,y,hn,?V,λzs q=>by rw[?a q aW];show hx,λzs q=>by rw[?b q UC];show hy]),@(by first | show ?m ?a ?b | ext d),@(∀l,?ld->l<i->?a),@(∀j,?al->?a),@(λ_ _ _ H _ I h=>?a),@(VJ n W w lo R B t p f m ?a μ ?b ?c),@(?le (Lw I hg hm ?a ?b)),@(?W ?a ?aJ),@(Ct n W w r ?a ?b ?c B0 kt hd t R B),@(#[?aa,mC (s:=?ua) (n:=?a9l) st' ?h ?h ?L #[?a,H,I1,#[t,?_],?IL,st',?qx]]),@(SX CS H0 ?a p q M n W t cnt ?b),@(∀j,j<r->?a),@(λ_ _ _ _ _ st h=>?a ?b h),@(show ?a from r),@(PE X ?a ?b),@(∀{P:?bM}[?Al]{i:Nat}[?Aa],P.Nodup->?aIe->?hD->?a → ?b ?i2 ?a0A m x=?aW),@(by ext bE;apply qy3 (Lw I hg hm hv ?_ hn hdb);show ?a ?aC7 he hpl),@(λr hr=>by ext a5d;let h2:(?HP&&?w (?Gj=?a-1))=true:=?lW;ext aou),@(za3 hz #[?VQ,?aGu,?pi,?Gv,?a la lb _ _ _ _ _ ?ajd,?aFf,I1.fp5,q]),@(?db ?a ?b [] ?H),@(?b2 K H ?a ?b),@(?aq λk hk=>?a),@(by ext ar0;{rw[?b1];exact ?a;rw[?b1];rfl};ext hi;exact ?b;ext hi;rfl),@(λ_ _ _ z=>by let ?a:=z;show ?b),@(s.heap.objs.size<=?a),@(qr6 hp (E6 (?a X ?h ?h ?h hc i Ae s3 σ3 H3 ?aQ I3 ?Io st3 ?b) ?HA)),@(by unfold An;rw[Ef ?a ?b];rfl),@(by ext gT;let ?aJ8:=h;ext pb;ext aY;show ?qy i j t t' s _ _ ?a),@(Sb n i β c ?a R B ?b ?c),@(H c=?i (.dK (cK ?a))),@(?EI (t':=s.toks) ?a f0 f1 f3 f4 f5),@(?a  x0 x1 x2 x3 x4 H),@(λσ H R=>?a σ H λx H1=>?b),@(?a ?b=none),@(∀x,x<q->?df m D ?a x=0),@(∀i ys τ H,?a->?hv->?b),@(∀b o,?a->?b),@(by cases ds with| nil=>show h| cons d r =>let ?a4e:=h;show ?a),@(An (Ca xs ?a) ?b),@(?GY ?wf ?J4 ?QI ?Ts qy8 qx9 ?Wv ?a ?b),@(?a ?b=Option.none),@(qo2 (?a Y ?h ?h ?h hc i [] s3 τ3 H3 ?nT I3 ?Io st3 ?b) ?HA ?a2r),@(by ext gT;ext aqA;show ?a ?ajT ?aTd ?g ?bU X.w ?aQ _ #[?b,?fo,q]),@(Vs n ?a w r kt hd ?b),@(?kz ?a ?dc "__setattr__"=?i (?i (?di "object.__setattr__"))),@(∀r c,r<n->c<?a->?b),@(λr c hr=>?a),@(λD σ H=>?a σ H ?b),@(s.heap.objs.size+?a),@(Ag λc _=>?a),@(?y #[?a,?eg,λys' τ' H' p'=>?b,?h0]),@(?x (?y #[?a,?b])),@(?X (qb0 ?a ?b) ?nm),@(?C H ?a ?b),@(?a  x0 x1 x2 x3 x4 x5 x6 x7 x8 H),@(∀x0 H,?qE->?zl->?KL->?a),@(∀h',?a8b->?aMX->?aU3->?aap->?aD0->?F4 → ?FW->Q ?a ?f7),@(∀i c,?M->?a),@(show ?a from ?b),@(LX ?a CL R r2 b2 ?b w w ?c ?tL),@(?p ?a3 ?a4 ?a Q ?b ?c),@(?cY P w H h a ?a),@(?a=if ?b=?c then 1 else 0),@(∀x0 x1 x2,?ii->?lU->?a),@(∀k,k<n->?a),@(show ?a from ry),@(qz1 hen #[?xD,?ai9,?pi,?Gv,?a l _ _ ?DQ,?aPB,I1.fp2,q]),@(Ws R t k ?a ?b),@(Ci (?a).length),@(?fE ?a e ?b ?c old),@(?bm (R:=?a) hj),@(#[u,?h,mC (s:=?f7) e c d ?L #[x,H,I1,ru,#[?h,?a],st',?qx]]),@(?a=true),@(?a=?i { cls:=?aS,data:=?eG ps }),@(?a Ae s2 σ H2 _ I2 q2),@(λl hl=>by exact T' ?Es ?a=0;rw[hu l hl];show ?Hn l ?b hl ?c ?g),@(λj h1 h2=>?a),@(by ext pV;let:=?a ?b ?c;ext d),@(?Di (?a ?EL) (λA R s=>?pz/\?D2/\R (.ok (?jd (?ed ?b))) s)),@(λl h1 h2=>?a),@(λi H x H'=>H'=H/\?a),@(λc hc=>?a),@(by rw[show ?a=?b+2 by clear hz2;ext d,qf2];simp;try ext d),@(by let:?a=0:=?b;ext j2),@(∀x0 x1 H,?wy->?Cp->?a),@(by rw[qa1,qa0 ?a];rfl),@(?q (za4 (T:=?XH) (b:=true) ?IP ?a9k (qc6 (k _ ?a)))),@(Vr X ?a (rI ?b λi j=>?t ?c)),@(?q (?a ?b ?c ?_)),@(?lK f=?i #[oc,od,?FR ?a,osl]),@(?a  x0 x1 x2 x3 H),@(λm hm=>?a R ?g ?g ne ?b),@(by let ?JU:=?JJ;let ?aL4:=qh7 (qp2 h0 ?a);show ?a1O ?b),@(?h3 (?a:Str)=?i ?b),@(?a6 (?a × ?b)),@(?a[i]?=?i ?b),@(?a A B r1 x1 y1 ?b x2 y2),@(?a (Dc I q (?cv not ?b))),@(∀(P M:Lat.Mat),?aYq->?alI->∀c,c<?hT->?aJl<?a),@(λi c hi hc=>?a),@(λb o _ _ hc e _=>?a),@(qa8 _ ?a),@(Ins n W w i G R0 B0 ?fb ?qQ ?a ?b),@(?kz K ?dc ?a),@(?Us (t':=s.toks) (fp:=?a) ?b hf),@(?a=xs.length),@(∀i zs τ H,?a->?jX->?b),@(?a->(R ?b H1)->?c),@(∀{binds:?sK}[?Aa],?aW0->?a ?i2 binds m x=m x),@(∀c,c<?a->?b),@(λd hd=>(?a d hd).mono ?GQ),@(λb o e=>?a),@(show ?a by show ?b),@(X5 n w M l r (λM' l' r'=>?a)),@(Ii k (?GK (?Ow ?hI ?a ?aG f Dr))->?ID → ∃t,?b/\?aY0),@(?eZ ?a z a b ?b),@(?cY ?bU X.w ?a h' ?b ?c),@(?aMr/\∀(i:Nat) v ps,?hD->?aYa->∃a us,?iH/\?a),@(#[h.1,λj v ps h1 h2=>by let ?aRZ:=?Oh;show#[D,uk,?cc,?a,?b ?c]]),@(?a j h1 h2),@(by rw[Aj ?a];show e),@(?j (λc'=>?qH*?a) w),@(?ij (a:=s.heap.objs.size) (o:=?a) (t':=s.toks) ?b ?l ?c),@(?Fg/\?FL/\?Bg/\?a/\?b i2 b ?c),@(?a=s.heap.objs.size),@(λσ' H'=>?v1/\?a σ' ?wi),@(λkv=>if ?Ik then ?a else kv),@(λb hb=>?a),@(show _<=F from tF ?a ?b ?c),@(Ss n W w i R B t ?a (?b).1 (?c).2),@(Me n W w i ?a ?b ?c t π b),@(LX ?a CL L r1 b1 ?b n n l ?Fo),@(Ct n W w r ?k G M B0 kt hd ?a ?b ?c),@(?da->?bZ->g ?aK σ ?a ?pI),@(?UF H (R1:=?a) λr c h1 h2=>?b),@(#[λi m σ H=>m=?a-i/\?b/\?da,?c,?_]),@(ret (?ed ((←?SK s!"dict.{?a}" ?agW ?aj4)==?b))),@(by simp;show ?nI ?a ?b),@(Vs w ?g1 n ?a kr hr ?b),@(?a*(if d=?b then ?c else 0)),@(λk c hk hc=>?a k c hk (by rw[?b k hk];show hc)),@(show ?a=_ from h'),@(SqT K ?a ?b ?c),@(E6 ?a λv s1 ?sE=>?b),@(Bs P w K mg ?dG ?a ?b f ?c ps sp),@(?dA λc=>?a),@(?ag w A one ?iC ?a),@(?a=false),@(?a ?b c ?c hc),@(λx c hx hc=>?a),@(by cases op<;>first | rfl | show ?X ?h ?a),@(ChL xs ?cE ?a),@(?i { cls:=?cU,data:=?bI #v[?t ?a ?lP,u] }),@(?i (?b5 ?a)),@(∀σ H,Pv ?a σ H->?dj),@(∀x c,x<w->c<n->?aOS=Sw w n ?wA ?a ?aIW),@(∀a b ms ns,?d4->?nq->?t3->?QS->(Q ?a H)->?b),@(λτ2 H2=>?a τ2 H2 ?b),@(p0->p1->p2->?a),@(Un fs ex H ?a h ?b),@(Gu n w ?a ?b),@(A69 ha hb I h λv u s2 x y H2 I2 rx ry q=>?a),@(?eT ?a=?i ?b),@(?b8 n W ?a ?b),@(?ag w T P ?a ?b),@((?a).map ?b),@(?a (NE:=?Vk) ?aVx ?ala ?g Pv h0 hl hs hd),@(∀b u,?nw->u≠?a->?b),@(∀[?hm][?bs] (n:Nat),?gD->?bq (?a n) (?b n)),@(Gc ?a u v 1 1 ?b),@(An ?a q),@(?a≠X.env.locals),@(∀k c,k<n->?a1->?a=?b k c),@(∀C s₀ H₀ fp,?a ?Sb ?b ?c),@(λp hp=>?a),@(λi H=>∃xs x,?a/\?dk),@(x.natAbs<=?a),@(sx _ _ (F8 ?a ?b ?dJ) ?c),@(by rw[qf2];show ?a ?b ?c),@(by (let:?a=(-?b)*?Bz:=?b9);rw[this];show qn5 ?c h.rr),@(LX H' C p r b sv n W ?a ?b),@(Iz n w ?a E A P PB Q QB ?b),@(Ins n W w i G ?a ?b ?c Y R1 B1),@(G 0 ?a ?b a _ _ ?L ?h ?h ?c ga),@(Ag λj _=>?a),@(?y (?y ?a)),@(?q (?a ?_)),@(?pD ?a ?dg ?a5 ?g ?a1k),@(?iq ?a=?Z/\?i3),@(?bw R p q a b c d ?a k),@(?abt (prog:=X.prog) (w:=X.w) ?dH it ?a ?b n),@(?X0 c k ?a (by let:=EY.inc k c ?g ?b;ext d)),@(?a x0 x1 x2 x3),@(λj=>?a j ?b),@(λb ps q=>#[#v[],by rw[Aj ?a,q];simp]),@(λa u n1 n2 e=>by rw[Aj ?a];show ?aQ5),@(show x=?a from hx),@(sA n w b0 ?a π b β ?b π2 b2 β2 C1 C2 F),@(qw4 (h₀:=X.base) ?Dm ?a ?aQZ he hpl),@(h Ae s σ H ?a ?b hw),@(by rw[?OS ?g ?a]at h1;ext ph;show ?yj),@(WX K CL CW H0 H' p L R nm n w ?mA ?a ?b ns),@(Vr X ?rw (?a ?b)),@(PI X tg l (?a ?b tl)),@(JL n w r M B0 kt hd π b η β ?a t s),@(?a xs ?gP ?fL ?fV ?Xa ?EN ?Gc ?ES ?vM),@(∀j k,j<k->k<?a->?Hq),@(λx hx=>?a),@(λm hm=>?a),@(λi j hij hj=>?a ?eN ?jn ?g ?agx ?qz),@(vL W n R ?a),@(s.heap.objs.size≠?a),@(by exact ?oG ?a ?b=true;simp[Value.isInt]),@(R (.ok (?jd (?I ?a))) { s with heap:=?b }),@(E5 n W w ?a ?b M B0 t R B),@(A.units+?a<cLine),@(?q (?a ?b ?_)),@(?oQ H ?a D ?b w f),@(?o2 (i:=i) (x:=?a ?b) ?Qm),@(?eZ ?a z TI TO ?b),@((if ?a=i then 1 else 0)*?b),@(#[h.1,λi v e=>let ?agi:=?aNm;#[c,e1,e0,?a]]),@(?a<xs.length),@(?a i j hi hj),@(λa o e=>fr _ _ (Ap e ?a) (Ap e ?b) ?a4g),@(by subst h;rw[qb8];show(?a (?b (?c h2))).symm),@(?x #[?gB,?nH,rd,?h,(jO ms ?a).symm]),@(?a (by clear hz2;show Ar.arn23 hzb)),@(∀j,?ea->?a),@(λr l=>?a r ?cP),@(λi j=>?a j i),@(λi H=>∃xs,?a/\?vT),@(λf hf=>?a),@(λb o _ hb _ e n=>?a b o e n hb ?G),@(show v=?a from h),@(s _ _ ?a),@(qc7 _ ?a),@(k x0 x1 x2 x3 x4 x5 ?a h0 h1 h2 h3),@(k x0 x1 x2 x3 x4 ?a h0 h1 h2 h3 h4),@(by let:=?aVE ?a ?b;rw[qf8]at this;ext d),@(by ext aqs;let:=?a r m y ?wS;ext d),@(Un ?a ?b H H' ?aA ?c),@(NP X Ae ?a s'),@(In w n ?a ?b),@(HV n r ?a kt ?b s.1),@(?fX z ?a ?eW ?b),@(?bw R p q a b c d ?a),@(?ag0 m.base m.few m.line qx8 ?a ?b ?aKB),@(?a8 K H' ?a ?b),@((?og ?a ?b).trans ?c),@(?a*(if c=?b then e else 0)),@(?a A B r2 x2 y2 ?wo ?aC9 ?aNc/\?Xr),@(?a ?bU X.w ?a7 ?fr ?g4 C m ps j sp),@(λ_ s2=>YP X Ae σ r Y ?aZn ?a s2),@(λ_ H Q=>Q ?a H),@(by rw[←qf2];congr 1;show(?a ?b).symm),@(?i { cls:=?e7,data:=?bI #v[] ?a }),@(∀x0 x1,?ls->?re->?a),@(λq hq=>?a),@(λb u q n _=>by rw[Aj ?a];show n),@(λacc C=>?ad7 ?a3 ?a4 ?aQ ?a ?b acc C),@(qc0 _ ?a),@(h.2 ?a ?b ?c e1 e2),@(by rw[Aj ?a];show q),@(Ss n W w i R0 B0 t ?a ?b ?c),@(Ss n W w i ?a ?b ?c 0 R2 B2),@(N1 xs ?a zs ks Ls Gs fs lp rp ls),@(A.under (?di ?ahy #[?dc::?a,kw])),@(?q (qm0 ?a ?G ?b)),@(?oe i ?a e3 (by let:=?Y2 ?b i ?c e3;ext d)),@(?m5 ws fam ?a ?b),@(?cL R i ?o ?a ?b),@(?D6 ?H f ?Gu ?a ?DW),@((?L:∀j,j<?a->∀i,?co->?b) j hj i h),@(?a x0 x1 x2 x3 x4 x5 x6 x7 x8 x9),@(?a j hj),@(?a _ _ _ _ ?b),@(?a (i:=i) (?nM nd).2 ?zs ?a4f hk),@(?a ?b ?c=true),@(∀[?hm][?bs] (i:Nat),?gD->?bq ?a ?b),@(pT n ?a ?b a b=?wW),@(k x0 x1 x2 x3 ?a h0 h1 h2 h3 h4),@(hg _ s5 ?a H5 x u _ I5' r5 ?ahh),@(g x σ H λσ1 H1=>t1 ?a σ1 H1),@(by rw[m,qd2,←qd2 ?a];show ?WL),@(_*(if m<w then T m m else 0)=?a),@(Pv ?a ?b τ H->Q H),@(?aq λl hl=>by rw[?a l ?g];simp),@(?a xs ?aL ?b),@(?a q loose XP YP ?aRa d [] ?aX3),@(λx vs H Q=>?a),@(λd hd=>?a),@(vs.length=?a),@(show ?a<w by ext d),@(hs i x y zs τ H p e1 e2 ?a hp),@(by rw[←l];show ?a ?b),@(by rw[?Pf h0 ?a]at h1;show ?yj),@(by rw[?a];simp),@(Vq ?kC η r ?a),@(RcAt A s ?R ?bT ?a),@(Ay ?a fam),@(Aj (ne ?a ?BF)),@(?m ?a (?m ?b ?c)),@(?du n W w ?a ?b B0 R B),@(?aq λx hx=>by rw[?a x hx,qe1]),@(?aq λa ha=>by rw[?a a ha,qe1]),@(?an ?uz j i ?q6 ?a),@(2 ^ (?a+?b)),@((ds.length:Int)+?a),@((JC h H).get? b=?a),@((EZ cells l acc).lookup ?a=?e3),@(#[?I ?oP,?C H1 ?oP ?a,?aHm,?h,?Tb]),@(?a _ _ _),@(?a K x y H Q),@(?a ?b Ae s1 σ H1 ?c I1 q1),@(qc6 #[plainId_quiet N8 ?a,?_]),@(Nat->?a),@(Gc (Cc A q ?a) ?fT ?jP a b hp),@(?a x0 x1 x2 x3 x4 x5 x6 x7 x8),@(∀r c,?rP->?a),@(∀(i:Nat) (v:Value),?WH=?aW->?a),@(λx lo hi H Q=>?a),@(λr j h1 h2 h3=>?a),@(λq hq=>let h:=Cn (?a q hq);?aUG),@(λk hk=>?a),@(λi j hi hj hne=>?a),@(dot n w ?a ?b),@(by rw[qa1,?a];rfl),@(U8 hp hq ne (λj _ h1 h2=>?a) ?_),@(Po π b ?a r ?b),@(JK ?a ?b id hD VF),@(Ins n W w i G R B ?gG ?a R B),@(Bo ?a ?b σ H s),@(?w ?a&&?w ?b),@(?qy s!"dict.{?a}.not-a-dict"),@(?jk ?a j ?b h2 h3),@(?jZ _ _ ?a (?b _ _ c3 (?kn _ _ c1 ?c))),@(?a55 (λx=>?w ?a)),@((?bh n [?a]).flatten=?b),@((?a).push { cls:=?cU,data:=?bI #v[?b,?c] }),@((?a ?wC).take ?NO),@(#[z,y,?a,?b,ob,?az,?c,c]),@(#[?aLH,by rw[qb8];show at_ _ ?a]),@(?a c hc),@(?a Pv h0 hl ?b hd),@(?a ?i2 ?BL m ?b=_),@(?a ?bU X.w ?a7 ?fr ?g4 ?b ps j sp),@(λc _=>by ext hj;rw[?eu,?lv,?a]),@(xG (λr=>Po ?qb ?Jm ?a r ?b) ?ef),@(show ?a from hy),@(show ?a from he),@(TA ?a r ?b n W ?c),@(Go n R ?a),@(At t1 ?a ?b σ ?c),@(?acL p ?a ho hc hd ?ahZ ?uq),@(?JG+(if ?a then ?He else 0)),@(#[?lD,r',#[o',n',e',?a,_,d'],_]),@(?a=none),@(?a n w D π β π2 β2 b2 A),@(?a l k hl (qb0 z (?b k l ?g hl))),@(∀k,k<j->?a),@(φ ?jF*An ?a ?jF),@(λj c h1 h2 h3=>?a),@(λa ha=>?a),@(β2+?sO*?l5+C2+?oZ*?ig<=?a),@(y3 r b H ?a),@(ql4 ?lR ?a),@(qg1 _ ?a),@(pR P w K mg ?dG ?a ?e0 s H),@(p.length=?a),@(PS X ?aD5 (Bg2 ?a ta tv f)),@(PS X (?uu [?a] e ?H) (zV te ?b)),@(LX ?a CL q r b ?aO m m s N),@(In W i R ?a),@(HU n W t ?a ?aP i ?b),@(Eo (λ_=>?a) ?b ?c),@(Cv xs ?a),@(Classical.axiomOfChoice ?a),@(BI I ?xa hs he (dM ?a hd ?b vJ)),@(?uj ?kE (?i ?a) ?ys ?T=?uc),@(?lE f i j x y ?a),@(?a9 ?a m),@(?D i (lN V Z ?a)),@(#[?dh,λz=>?X z ?a]),@(?a[i]?=?d7),@(?a<sizeLine),@(?a λb=>if ?E2 then ?b ?c q b else 0),@(?a t #v[key,p.2]),@(?a r t OS hst hz),@(?a c o ?aDw hc nch ho ?a3K),@(?a K xs H Q),@(?a K x lo hi H Q),@(∀c,?Jx->?a->?b),@(λo s₁=>?p ?ab A ?a ?b E ?gw),@(λi m zs τ H=>m=?a-i/\?b/\?jX),@(λi m ys τ H=>m=?a-i/\?b/\?hv),@(λi h ?CA=>HW hz hTI hTO ?a ?b),@(β+?sO*?iM+C1+?oZ*?sI<=?a),@(size=?a/\need=?b),@(show ?a=?fV+?b by show(qe8 ?c).symm),@(k x0 x1 x2 x3 ?a h0 h1 h2),@(eE n W w i G R B t b p ?o μ ?a ?b),@(by rw[cell,?s λq=>?a ?b];simp),@(Wx ?bU X.w ?a ?b),@(Q ?bV { s with heap:=?li ?a }),@(List.find?_cons_of_pos ?a),@(List.find?_cons_of_neg ?a),@(Ag λa ha=>by rw[?a a ha]),@(?aH1->?amo ?a ?Bw=?bo ?tJ),@((if ?a<r then X ?b i else 0)*T c ?c),@(#[?a,_,I.lnew (t':=s.toks) ?b ?c,?h,?aRU]),@(?a ?b ?v p.2),@(∀x,x<n->?df w A ?a x=0),@(∀q,?GF<2 ^ ?a),@(∀j,?aU->In W ?a R' ?FB),@(∀a b,a<?a->b<?b->?c=?a4a),@(λl hl=>?a),@(λi hi=>qc9 (Nv ?a i hi)),@(qd0 (show ?hJ=?a from x)),@(opI λi j _ _ _ _ _ hc q=>?a),@(opI λ_ _ _ _ _ _ _ hc q=>?a),@(ds.all (λe=>Eu xs e ?a)),@(a.natAbs<=?a),@(Z1 xs k ?a),@(Vr X ?aXP (Bh5 ?a n ?hH)),@(R ?a ?am),@(LX H' CS p ?a ?b ?TH n W s' M),@(I2.kept (t':=s1.toks) ?a),@(Hq xs k (?e6 z l.2 L ?a)),@(Fz X ?a (?b K)),@(An ?a k),@(?x #[?a,?b]),@(?ud m i ?a f),@(?sm t ?a ?aP ?b ?ee),@(?s λy=>z ?a),@(?jl ?a ?vn ?a8o ?aeD ?gw),@(?ip t ?o ?a ?b),@(?i (?NV ?fN ?a)),@(?eG #v[?a,?a4G]),@(?eC ?a=?Z),@(?b0=?i ?a),@(?a9 f ?a),@(?N3 K C ?a=true),@(2 ^ ?a*e.natAbs),@(1*(-q*0+p*f ?a)),@(#[?a,?jy,?jy,λz hz=>?b]),@(?a<=A.natAbs),@(?a λp=>?w ?b),@(?a x y hx hy),@(?a ?o st s' hs hI hB hex),@(∀m,?a<=m->?b),@(qQ ?a ?b (?CV).1 ?Vt (?CV).2),@(h.imp λ{a b} n z=>n ?a),@(by unfold Kf;rw[?a ?cw]),@(by rw[Aj (?a c ?b r)];show r),@(X5 n w A ?a ?b (λM l r=>∃m,?c)),@(Nat.sub_one_lt_of_lt ?a),@(A0->A1->A2->A3->?a->?ar),@((λc=>?j ?a ?ae)=λc=>1*(?b) c+?c),@((?N4).names.lookup x=?a),@(?a (λz=>?b ?Dp) λa ha z=>?c ?Dp),@(?a (p:=i) (q:=j) ?g ?g ne ?b),@(?a ?b=true),@(∀r c,?eR->G c->?tc<=?a),@(∀m,m<d->?cS ?a ?cg ?cn ?b m=?c),@(∀k,k<i->?a<?bS),@(∀j,?nf->j<w->?a),@(∀i j,?M->?aU->?a=?lm),@(λi h h' st k=>?a),@(λh' vJ hs=>?a),@(qh0 ?a (qe7 ?b)),@(qc1 ?a (qi0 ?L ?b)),@(qb0 ?a ?dK),@(pl.isList.at λo e=>?a),@(pA I (A:=X.A.in1) ?Xy ?a ?b r ?c),@(k x0 x1 x2 ?a h0 h1 h2),@(hl i ?a τ H hi ?b),@(by let ?a1u:=h;show#[v,?a,?h,h1,?b]),@(Wz n C δ ?a ?b),@(Wx P w ?a ?b),@(SlR X (?a ?a7)),@(PG X ?aZp (Bq0 ?a n t)),@(DZ ?a (λi=>?w ?b)),@(CX ?e0 H s E ?a ?b),@(?yE ?a=?np),@(?xQ c (ps.take ?a) acc),@(?w (?a i=?b j)=?QV),@(?s1/\?a ?aA a ?bO/\?kR),@(?nd .And ?a ?H),@(?nY k _ ?g ?a (?qC j k h1 ?b ?c)),@(?nU->j<m->?a),@(?hR xs need ?a),@(?d5 k _ hk (?fP ?a k ?b hk)),@(?a8 ?a7 H ?a ?b),@(2 ^ ?ee*?a*?aT),@((n,(?a n).getD 0)::acc),@((hs2.2 ?a ?b).trans ?c),@((?dz ?a).map λi=>?b),@((?a ?b).trans ?c),@(#[σ',H',?a,q]),@(#[x,?aE,?a77,?a,ex,ea,c,?b,l,q]),@(#[?a,?aE,?b,q1]),@(?a<9223372036854775808),@(?a xs ms i),@(?a b=?i (.dK (cK ?iL))),@(?a ?lH 0 ?ew ?cr Y.env),@(∀i,(?a).length<=4*i),@(∀i j,?M->j<?a->?aPv),@(λj hj hn=>?a j hj hn),@(λb ob _ _ hb z _=>?a),@(l.length=?a),@(jU hs B8 ?a),@(j.natAbs<?a),@(h.2 b hb (?de hbj ?a)),@(_=if r<?c1 then ?a else ?b),@(Vs n ?aN w r kl hl ?a),@(Vr X ?JD ?a),@(Rd H a ?a),@(MR n ?aN ?a),@(M2 X o ?a ?jc e f ?gN),@(?y #[?a,?eg,?a7Q,?h0]),@(?w (?a=?b)=false),@(?q (?aUA q1 q3 ?G ?a)),@(?nX/\W i ?a ys τ' H'),@(?bq ?a us),@(?bY λp=>?a),@(?agN ?a it d i ?b ep ok ov),@(?Rs hD ?a (s:=t) h.pg),@(∀x y,x<k->y<k->?a->x=y),@(∀i j,?oA->?co->j<w->?a),@(∀i c,i<?a->?b),@(∀i c,?eR->?a),@(λz=>(?a _ z).2.1 ?h),@(λz=>?a (?b z)),@(λhn b hb=>#[hn b hb,?a]),@(λc o _ _ hc e _=>?a),@(λb o hc e=>?a),@(vB n w A Q ?a),@(up b _ ?a ?dJ),@(show ?a from rfl),@(show ?a a ?bO from p),@(qm7 (g:=?nO) ?a),@(qc9 (Nv ?a ?b ?g)),@(fs.length<=?a),@(by unfold upd;rw[?a]),@(by rw[←eu];show ?a),@(MtR X ?aDn (wH ?a n)),@(Jb ?Bc ?Y0 ?a),@(H b=?a->?nS=?b),@(Gc A ?fT ?fT ?a 0 hp),@(G8 X sc N' ?a s H fp),@(G 1 ?a ?b b _ _ ?L ?h ?h ?c gb),@(Dt O ?a vs ps),@(?wJ ?a j h1 ?b h2),@(?p ?ab A ?a ?acE E s),@(?nd .Or ?a ?H),@(?hR R t ?a ?b),@(?fY ?a ?aA h'),@(?fE ?a ?ba ?aG 0 ?aS),@(?b8 n n β ?a),@(?Hi ?a e j ?jU x ?H2),@(?A (?Pa (qf4 hi) ?a)),@(2*(((?a:Nat):Int)%2)),@((rel.val ?a).getD rd),@((?a ?g).cols ?Ut ?Ws),@((?a ?a7 a b).yld i H),@(#[od,?az,?a,c]),@(#[k,v,t,t',?a,?Q,?b]),@(#[a,b,xs,ys,?V,ha,hb,hx,hz,?a,?b]),@(#[?mk,hp,?iy,?a]),@(?a=kvs.length),@(?a=items.size),@(?a<s1.heap.objs.size),@(?a<=?b7),@(?a ms fs n ?b),@(?a j c ?b hcw hne),@(?a b ?b ?c n hb hx),@(∀j,?a->j<?b->s.1 ?c ?aF / ?BZ=0),@(∀a kvs,(xs=?a)->?vd->?b->?c),@(λv H'=>?v1/\?a v ?wi),@(λp:?ds=>?a),@(λj c hj=>?a j c ?g),@(λi h ?Bh=>DJ h1 ?a),@(z λc=>1*u c+1*v ?a),@(xs[?a]?),@(x.natAbs<?a),@(k x0 x1 ?a h0 h1 h2),@(k x0 ?a h0 h1 h2 h3),@(ih _ (h.parts ?a) ?SY),@(by unfold put2;rw[?a,?b]),@(by unfold Y8;rw[?a]),@(by rw[qd2];show ?m ?a ?b),@(by rw[?a hc];show h),@(by exact ?a=?b+0;rw[qe5]),@(YP X Ae σ u ?a ?b fp s2),@(UnR X ?a (rU λi=>?t ?b)),@(U3 J g tc te D ?a ?z4 ?b),@(Qx n w ?a ?b),@(K9 R p ?a a b c d k),@(Hb.bl xs ?a (λx=>uC x ?b) ?c),@(?gH=?i (.dK (?a m))),@(?YZ/\(?Ki->?a)/\∀g a b,?Yi->?b),@((?XN).findIdx? ?ZF=?a ?b),@(#[z,k0,L,G,f,l,r,?a,?h]),@(#[its,_,?a,_]),@(?a<(?b).length),@(?a "tuple_iterator"),@(?a ?b σ H Q),@(?hO/\∀i m σ H,?gM → (?ask ?a)\/(?asD ?b ?c)),@(?a x0 x1 x2 x3 x4 x5 x6 x7 H),@(X9 λ ?yU ?aL ?ru ?ah ?op=>Ey ?BV ?jz ?t9 ?jO ?a ?b),@([?jw,?lz,?Gn,"dict_reverseitemiterator","odict_iterator","itertools.zip_longest","itertools.pairwise"].contains ?a),@(∀[?ma],?bl->?aM->?gH=?a->?dB),@(Kz λx0 x1 x2=>?a),@(∀x0 x1 x2 x3 x4 x5 x6 x7 H,?ST->?a0H->?P5->?a),@(?i (.dK (cK ?a))),@(St->?asf Hp ?a),@(A6->A7->A8->A9->?a),@(?a x0 x1 x2 x3 x4 x5 H),@(by ext Ln;apply ?a ?abc;let ?lc:=_z;cases c with| true=>show ?b| false=>show ?c),@(∀H',?aM->Q ?a H'),@(∀d,?yV->?asM ?wX (?cS t ?a ?aP ?b d)),@(X9 λx0 x1 x2 x3 x4=>?a),@((if ?a=?b then 1 else 0)*?c),@(by intro Ae s σ H Q I hq;apply ?a ?aDp;ext aq5;apply(?ayp ?b);show ?c),@(?x5 { cls:=?FU,data:=?eG #v[?t ?i9 ?a,?t ?bN t',?t ?bN t''] }),@(∀x0 x1 x2 x3 x4,?qY->?sU->?rU->?a),@(Ji λx0 x1=>?a),@(qv3 ?h (zc6 (qr4 (E6 ?aRn λiv s2 ?a3u =>qr4 (E6 ?aih ?a))))),@(?j (λb=>?a) z),@(?a x0 x1 x2 x3 x4 x5 x6 x7 x8 H),@(∀(p:Addr) [?Ac] [?N],?bZ->?aM->?IG->?aHp->?dF->?a<=?b->?rF),@(Sx λx0 x1 x2 x3=>?a),@(Q (.bl ?a) H),@(H t=?awH [?t ?v,?R,?bT,?hQ]/\?b0u (.dK (cK p.2.1))/\?a),@(?b29 ?a ∨ ∃(o:Obj) (its:?dE) (n:Nat),?lK a=?Z/\?b/\?aTC),@(?a σ H1 λy H2=>?b),@(?db (?je ?a ?b ?jc) ?c [] ?gN),@(#[ha,hb,?auk (?nh ?a≠Value.notImplemented/\_) ?ag4]),@(Dd (Qz xs ?a ?b)),@(?a1f ?WA #v[] (?bh ?a ?bO)=(?bh ?b its).flatten.toArray),@(∀[?c3] (D:Ends),?bQ->?a3q->?asI (?a st ?T) ?aQ2),@(WX K CL CW H0 H' p L' R' nm n w ?Sh l' r' ?a->?dm),@(∀x c,x<n->?a1->?a x c=?atN ?b ?c),@(λxs H Q=>?a),@(s1.heap.objs.size+?a),@(PI X tg (?au7 ?P7 ?a) (?b ta)),@(Em (?asd (by exact _=if r<0 then ?a else ?b;ext hZ))),@(?cW ?a ?T),@(?a ?b=?asl ?c),@(∀x0 x1 x2 x3 x4 x5 x6 x7,?Eb->?Bn->?Ch->?Dd->?a),@(∀x0 x1 x2 x3 x4 x5 H,?aBF->?aGE->?aiX->?aeI->?a),@(?a->Prop),@(?a  x0 x1 x2 H),@(PC CX P w K mg ?dG N ?hI ?sj f ?a A ?e0 s H E),@(v7 P w K ?hz ?a ?k4 z (λi h=>?avn (?b i1 a i) ?c i)),@(SX CS H0 H' p q M n W t ?a ?b),@(?i (?eb ?a dx ?b)),@(?cS t ?a ?aP ?b ?ee),@((if r<?a then ?sn else ?q7)=?b),@((if r<?a then ?oc else ?nA)=?b),@(∀[?aV][?hl] (n:Nat),?kB->?au8 (?a n) (?b n)),@(At t7 (At t8 (At t9 ?a))),@(?p _ _ ?a _ _ _),@(?j (λl=>?a) n),@(?a<n->(?avZ n (?gz=?b))->?Gb),@(∀x0 x1 x2 x3 x4 x5,?JV->?Hw->?L3->?Is->?a),@(λi j hi hj=>?a),@(?s (?atR ?a)),@(?a x0 x1 x2),@(PI X ?hz ?a (?b K ta)),@(?a (if r<?b then r else ?c1) ?c),@(Dn λx0=>?a),@(?a==NameKind.free),@(∀x0 x1 x2 x3 x4 H,?am8->?aQT->?aIU->?a),@(∀x0 x1 x2 x3 H,?WI->?a),@(λi hi=>(?a i hi).cols ?b λc hc=>?awC ?c i hi),@(show ?asy ?a ?b from ?c),@(A0->A1->A2->?a),@(?ou*(?e6 z l.1 G i a*?e6 z l.2 L i ?a)),@(?bl->?aM->?a->?b->?dB),@(?a->(?at6 ?bZ H ?b)->?c),@(by ext bE;show ?a ?b),@(?auQ ?jr ?a+((noB ?vt).map ?yy).sum),@(∀i x ys τ H,?dk->?hv->g x τ H ?a),@(Ji λ ?e8 ?ah=>Di ?FM ?Vz ?dF ?dy ?a),@(In n w ?l9 (?ei ?a i)),@(E6 (?asq ?a ?b) ?c),@(?h7 ?a ?T),@(?asV (?a a*QB ?b a) w*Q ?c c),@((Q ?a (?auf l (?U ?b)))->?c),@(?a  x0 x1 H),@(Sx λ ?e8 ?NL ?Bx=>Di ?aHq ?ub ?a ?xT ?b),@(∀{m:Nat},?rV->?a),@(λj c hj hc=>?a),@(v7 P w K ?hz ?a ?rk e (λi h=>?aC8/\?b)),@(qf1 (qb0 ?a ?b)),@(ms.length<=?a),@(Ci (?atW ?a).length),@(B4 (?asC (?a≠?b))),@(Ag λc hc=>by rw[?awC tl ?a ?b,←Dw]),@(?st (t':=s1.toks) ?a),@(?asr e+sg 2*Pm (?atW c.toNat) ?a),@((?NI ?gN ?a).all (λx=>x.1.isSome)),@((?awv T' ?bp) ?a=0),@(∀p xs i v,?Du->?Fs->?a->?Ru->?BB->?b),@(WX K CL CW H0 H p L R nm n w ?a l r ?b),@((∀p H',?aM->?aw6 H' p ?a->?rF)->?b),@(∀{n:Nat},?a->?b),@(∀[?aV][?au],?sC->?a),@(λys hy=>by rw[?a hy hq];show hx),@(by let:A k 0=0:=qi4 λz=>?a ?b;ext j2),@(SqL K H ?a ?b),@(?p ?a3 ?a4 (?Qw ?hz ?a r) (?axt ?b) E ?c),@(?a { cls:=?b,data:=?bI ?c }),@(TI K H v ?a),@(?cd xs ?a p),@((items.toList.drop ?wx).take ?a),@(#[?awd ?a,?av6 (∀xs,?b->?dk),?axX ?c]),@(∀x,x<?yp->?Pj ?ap ?Ck ?a x=0),@(vs=[?R,?a]),@(te ?a ?b λy H4=>?Yn/\?a0t/\N ?I7 ?c ?Qs),@(ms.length+?a),@(MX λ ?X8 ?ah ?ZN ?G2 ?G9 ?a4X=>?a),@(Ag λi _=>?a),@(?aBl->(∀y,y<k->?a)->(?D k ?b).natAbs<=D),@(?a8 K ?a ?b ?c),@(?asv ?a=_),@((?azB ?a ?b&&?w ?c)=true),@(#[h.1,λi v p e1 e2=>?a]),@(∀d o kvs,?aZ6->?avX ?aGM ?a ?b),@(sp ?amW (?C ?a x ?a3z) ?aA4 E),@(by subst hK;show(?a).imp ?aOy),@(by subst hK;show(?a).imp (?auB ?b ?c)),@(PZ C m sp ?a ?b ta ?c),@(BB n ?a ?r5 ?ks ?b ?c),@(?kR/\∃(its:?b4) (n:Nat),?s1/\?a),@(?b2 K H' ?a ?b),@(?a9 (?awv ?a ?b) ?c),@(?W (?awB (x==(?a:Str))) ?ky),@(#[h.1,λi v ps e1 e2=>let ?a:=?aSC;?b]),@(?a ?dH D hz hTI hTO h1 h2 ?b ?c ?_ ?adb),@(∀j,?al->?asX ?a ?b),@(λk _ hne=>?av9 (one ?a k) ?Xb),@(SqL ?a7 H ?a ?b),@(Qs xs ?a ls z L G),@(?s (?asC (¬?a))),@(?iN ?a i ?dt ?b),@((?D k ?a).natAbs=(?D k ?b).natAbs),@((?awY ?a).natAbs<?b),@(?a->?b → ?asI ?c ?g9),@(λAe s σ H Q I hw=>?a ?a2v),@(qn2 (?axP ?a) (?awC ?b j hj)),@(ns.length<=?a),@(g ?a σ H ?pI),@(acc.length+?a),@(SX CS H0 H p q M n W t ?a s),@((if ?a<=c/\c<r then _ else 0)=?b),@(?a ?b ?c h1 h2 h3),@(∀x y,x<n->y<w->?a),@(∀r c,r<?a->?b),@(∀k c,k<n->?a1->?a),@(λi hi=>?a),@(ls[?a]?=?px),@(by cases q:?a;{show q};show ?X ?b ?c),@(E6 ?XK λu s2 ?CN =>E6 ?aFs ?a),@(At t2 (At t3 ?a)),@(?x (?x ?a)),@(?q (qc6 ?a)),@(?cY P w ?a ?b a ?c),@(?cS ?a ?cg ?cn ?b ?c),@(?asv ?a=?ct+?b*φ k),@((if ?a then _ else ?b)=?c),@((?a:Shared).TypeIs ?b ?c),@(∀w:?J,?atA ?aDa ?a w=0),@(λh=>?avn (?a i1 a ?k) ?b ?k),@(by rw[?aWi];show ?a j ?oC),@(by exact ?a=?b+?c;ext d),@(br.mono (?avs f2 e2 ?a)),@(bl.mono (?avs f1 e1 ?a)),@(Q2 ?a λj y hy=>?b),@(Di (p0) (p1) (p2) (p3) ?a),@(Cc A p ?a),@(Cc ?a k λc=>?asU (T k j*?b) ?F),@(?a<=xs.length),@(?a t ?o i ?qw ?la g a b s),@(?a (?awo wpAny_onRaise)),@(∀σ' H',?BP->∃m',?so/\?a),@(∀{ms:Ms},?fv->?a),@(∀x c,?jK->?a),@(∀spot s,?a->?a28->?b),@(vs=[?R,?a,?b]),@(qf1 (qd0 ?a)),@(newL H ?a (λj=>?b) Q),@(ms.length-?a),@(insS i ?o st ?a),@(ha ?a Ae ?b σ H _ ?c h),@(h'.objs.size=?a),@(by simpa using ?a),@(X.natAbs<?ayl bookF ?a),@(Q (?t ?a) H),@(Pm (?bA (?a).toNat []) e),@(OF H ?a Q),@(ChL xs ?F ?a),@(Ag λk _=>?a),@(?nt ?a []),@(?bw R ?a ?b a b c d),@(?bo (?KG ?a)),@(?aso ?a=?yc+?b),@((?a).getD ?b 0),@((?a r c hr).trans (?b r c hr)),@(#[_,?a,?h]),@(?a[i]' ?g),@(?a r c hr hc),@(?a X Ae ?b ?c s'),@(?a K R vs H1),@(?a (Dc I q ?b)),@(∀zs τ H,?ayQ ?a zs),@(∀ys τ H,?ayQ ?a ys),@(∀c o,?zr->?a->?b),@(show ?aun ?a from ?b a _ e),@(qo7 zb9 ht ?ak7 ?a ?aZo),@(qo7 qw0 ht ?aFp ?a ?aDK),@(by rw[?a ?b ?c,qg0]),@(E6 (?ase ?a _) ?b),@(?b0k ?a=?bd+?b*?c),@(#[?axp ?v ?a e,n,ne,nf,d]),@(?a[j]?=?i ?b),@(∀l,f<=l->l<?a->?b),@(∀i t s,?a i t s->?Id),@(∀(i:Nat) (x:Value),?a=?d7->?b),@(λj a e=>?a),@(λb o hb e=>?a),@(vs=[?aK,?a,?b]),@(qc1 (?axc ?a) ?b),@(a*?az4 u x+b*?az4 ?a ?b),@(V->V->?a->?asf Hp ?ar),@(Hq xs ?a ?b),@(Cr xs ?a),@(Ag λl _=>?a),@(Ag λb _=>?a),@(?vf qz4 ?vK ?aHu ?aWm ?a ?b),@(?q (qo2 ?a ?b ?C6)),@(?lE f i j ?a ?b),@(?j (λa=>?asU (?a*(?yK*?b)) z) ?c),@(?j (λa=>?a) m),@(?du n W w ?a R B R' B'),@(?cY ?bU X.w H ?aA a ?a),@(?cW ?a env),@(?cN ?a t.2),@(?bQ->?n4->?asI ?a ?a30),@(?D ?r ?a),@(?B4 (v:=v) (o:=?K9) ?a),@(2 ^ ?a*m*h),@(#[?mk,?a,?iy,λM' e=>?lQ ?b ?afQ]),@(#[?akx,?av6 (x=?a),?aev]),@(?a i ?b hi ?c),@(?a b o e),@(∀r,?d3->?jo->?az7 ?a ?b<=?c),@(∀[?au]{acc:Ms},?akI->?a),@(λh=>?ahC/\?a it a ?k),@(qi4 λy=>z #[c,hc,?a]),@(qf3 ?L ?a),@(l<i->?asw ?a ?am ?b7),@(by rw[e j h1];show ?a),@(by rw[?a i ?g];show q),@(Gq (a ?a) n),@(?wn ?a j ?H),@(?p ?a3 ?a4 (?a22 ?a) ?aIP ?b ?c),@(?an R i ?o ?kt ?a ?am),@(?C H a ?a),@(?asc (?a k a*?b k b) ?c=dl a b),@((?ayq ?a).length<=_),@(?a × Value),@(?a p hp),@(?a l ?i1 h2),@(∀r t,?d3->?yT->?yJ->?a),@(∀p ys,?fC->?aaa->?a->?b),@(∀k,?oA->?D i ?a=?a1Q*?b),@(∀i,?M->?axj ?a (?b i)),@(∀c,?a1->?a=?asc (X ?b k*?c) r),@(λx hx=>?a x ?NJ),@(λq hq=>?a q ?I9),@(λb ob hb z=>?a),@(λb o n1 n2 q=>?a),@(xs=[?R,.ty ?a]/\?b0=?b/\?JH),@(vK ?a E vs hl),@(show ?avg _ _ ?a from ?b),@(ps.length<=?a),@(kvs.length<=?a),@(a m*?atA A p (U ?a)),@(E6 ?FX λus s1 ?RJ=>?a),@(An (?a).2.1 q),@(?s (?b2P ?a ?b)),@(?r*(B 0*(jH ?a*?Yb))),@(?akg/\H'=?auf a ?a),@(?ag ?a ?b one),@(?avT "__init__"=?a),@(2 ^ (?a-f)*μ),@((?auw ?a).congr λc _=>?b),@((?a/\?aY8)\/(?b/\Q ?aK H)),@((?a m hm).trans (?b m hm)),@(#[a,vs,e,?a s hb q,?a8x]),@(#[?bV,_,I3,?h,hY ?kS,?a,hn3]),@(?a=((?b:Nat):Int)),@(?a j ?b h1 h2),@(?a _ _ e),@(?a _ _ _ ?b),@(?a ?dH h1 h2 ?b ?aRx ?aI8),@(?a ?b ?zR ?Dn ?wQ),@(?a ?b ?g ?g),@(∀n:Nat,?asc (?a*f k) n=?b),@(by rw[x0 k ?a];simp),@(A0->A1->?asf A2 ?a),@(?zm o ?a ?T ?kF=?kF),@(?zm e ?a ?T ?lt=?lt),@(?uj e ?a ?ys ?T=?uc),@(?m (h.rowD hD ?a ?b ?c hc) h2),@(?aye [?a]=[[],[]]),@(?axq (T i d) d=?a),@(?a st ?b (x:=u) ?pw ?aOM),@(?a j ?g),@(MX λx0 x1 x2 x3 x4 x5 x6 x7=>?a),@(SM λx0 x1 x2 x3 x4 x5=>?a),@(?a x0 x1 x2 x3 x4 H),@(?a x0 x1 x2 x3 H),@(λb H3=>if ?xq then te τ2 H3 ?a else Pv ?k ?b τ2 H3),@(?a x0 x1 x2 H),@(X9 λ ?fJ ?ah ?aL ?hx=>Di ?Nm ?bP ?yR ?a ?b),@(∀(j:Nat) v ps,?a=?aW->?Kr->Ji λ ?a1n ?PS=>?b),@(Bv (p0) (p1) (p2) ?a),@(#[?oP,?a98,?pi,?aQ3,?a a _,?qM,?d9,q]),@(∀a b xs ys,?d4->?nq->?fO->?YU->?a),@(λ ?fJ ?ah ?hx=>Lj ?iU ?bP ?yR ?a ?p8 (?b) ?c),@(?bo (EZ ?CT ?a ?b)),@(?a x0 x1 H),@(?cQ ?a TI ?z6 ?zw),@(?D i (Cc ?on k ?a)),@(?ag w ?a one ?b ?c),@(?a9 ?ng ?a),@(?a x y H Q),@(by exact _=?a;rw[qe2];show ?b4F ?b ?c),@(?a Ae s1 σ H1 x v ?b I1 r1 q1),@(λj hj1 hj2=>?a),@(λi c h1 h2 h3=>?a),@(H ?a=?b3j ?b),@(?i (?jL ?aG)=?i r/\?b5J ?a ?b ?c),@(?bl->?aM->?gH=?i ?a->?dB),@(?b2 K ?a us ?gm),@(?aX9->?aNi->?aUw->?acu->?a),@(?aNg (?b4t h1 ?a ?aSX)),@(∀x,x<?a->?b),@(λx y=>?awA ?a),@(qh1 (E6 ?a ?aQE) hs ?h),@(by rw[?b8P e ?a];show ?b),@(Q ?a H'),@(?oq ?a (?b4u ?b)),@(?b03 ?a/\?ayI ?b ?v key),@(vs=[?aK,?a]),@(by exact _=?a*?ast (?b*?c) w;ext a62),@(?j ?a n),@(?W ?a ?ky),@(?D n ?a),@(?a λj hj=>by ext a5e),@(∀j,?aU->?a),@(∀c,?n6->?a),@(∀(gs:Ms) [?dr],?lB->?a),@(λh' hout uE htup hsz hk=>?a),@(λh' eb=>#[?h,?auI ?a]),@(λc o hc e=>?a),@(λAe s σ H Q I h =>?a ?b),@(xs.length<=?a),@(kvs.length+?a),@(gT m G B ?a c),@(by rw[?a];show ?b),@(F8 ?a ?b ?dJ),@(?a t B8 hk ?b),@(∀m,m<=?a->?b),@(X8 ?a*A ?b 0),@(Ag λk hk=>?a),@(?bZ->?aM->?a->?b5h ?b ?c->?rF),@(?b4u ?a=?b),@(?asO (?b7q ?a) s'->?b),@(∀i x y zs τ H p,?dk->?zg->?jX->?bZ->?a),@(_=(?b8s r ?a:Sem _)),@(?df w ?xf ?a ?b),@(?auu ?a=k),@(.dK (cK ?a)),@(∀i,i<r->?b4s ?a),@(?j ?a w),@(?a=?b9l ?b)])
namespace Internal
def Zrr(_:True:=by rfl):True:=trivial
def Zdr(_:True:=by decide):True:=trivial
def Zcr(_:True:=by ac_rfl):True:=trivial
def Zir(_:True:=by intro _;rfl):True:=trivial
def Zer(_:True:=by show rfl):True:=trivial
def Zkr(_:True:=by ext c4):True:=trivial
#check[qa0,@List.getElem?_eq_getElem,qa1,@List.getD_eq_getElem?_getD,qa2,@List.getElem?_eq_some_iff,qa3,@List.length_map,qa4,@Nat.le_trans,qa5,@Nat.le_refl,qa6,@List.getElem?_map,qa7,@PySem.wpAny_bind,qa8,@PySem.Heap.get?_push_of_some,qa9,@List.mem_of_getElem?,qb0,@Nat.lt_of_lt_of_le,qb1,@Option.some.inj,qb2,@List.map_append,qb3,@Nat.zero_le,qb4,@Nat.lt_of_succ_le,qb5,@PySem.PassesOwn.never,qb6,@List.length_append,qb7,@Int.natAbs_mul,qb8,@Int.toNat_natCast,qb9,@List.mem_cons_self,qc0,@List.mem_cons_of_mem,qc1,@Nat.lt_of_le_of_lt,qc2,@Bool.and_eq_true,qc3,@List.length_take,qc4,@List.getElem?_append_right,qc5,@List.getElem?_append_left,qc6,@PySem.wpAny_pure,qc7,@Nat.mul_le_mul_right,qc8,@List.take_length,qc9,@of_decide_eq_true,qd0,@PySem.Heap.lt_size,qd1,@List.mem_map,qd2,@Int.natAbs_neg,qd3,@PySem.Heap.get?_push_size,qd4,@List.size_toArray,qd5,@List.length_cons,qd6,@List.getElem_mem,qd7,@List.map_cons,qd8,@Nat.lt_trans,qd9,@List.take_succ,qe0,@Nat.le_of_lt_succ,qe1,@Int.mul_zero,qe2,@Int.one_mul,qe3,@List.all_eq_true,qe4,@List.mem_cons,qe5,@Int.add_zero,qe6,@List.mem_range,qe7,@Nat.le_of_lt,qe8,@Nat.add_sub_cancel',qe9,@Int.mul_assoc,qf0,@decide_eq_true,qf1,@Nat.ne_of_lt,qf2,@Nat.pow_add,qf3,@Nat.pow_le_pow_right,qf4,@Nat.le_of_not_lt,qf5,@Bool.false_ne_true,qf6,@PySem.F.plainAttrs_list,qf7,@PySem.boot_len,qf8,@Int.mul_comm,qf9,@List.length_filter_le,qg0,@Int.zero_mul,qg1,@Nat.mul_le_mul_left,qg2,@List.mem_filter,qg3,@Nat.le_add_right,qg4,@Nat.le_add_right_of_le,qg5,@List.mem_singleton,qg6,@Nat.lt_of_succ_lt,qg7,@Nat.add_le_add_left,qg8,@List.getElem_of_mem,qg9,@Int.natAbs_add_le,qh0,@Nat.mul_le_mul,qh1,@PyProof.Rows.callWith_type1,qh2,@Nat.succ_le_succ,qh3,@Nat.one_mul,qh4,@Int.fdiv_eq_ediv_of_nonneg,qh5,@List.nodup_cons,qh6,@Nat.add_mul,qh7,@Int.eq_ofNat_of_zero_le,qh8,@Int.le_of_lt,qh9,@Nat.sub_succ_lt_self,qi0,@Nat.pow_lt_pow_right,qi1,@List.getElem?_of_mem,qi2,@List.mem_append_right,qi3,@List.length_singleton,qi4,@Decidable.byContradiction,qi5,@Option.map_eq_some_iff,qi6,@List.take_of_length_le,qi7,@List.length_drop,qi8,@PySem.F.type_list_append,qi9,@PySem.F.slot_list_append,qj0,@List.getElem?_take,qj1,@List.filter_append,qj2,@Nat.pow_succ,qj3,@Nat.lt_or_ge,qj4,@List.length_replicate,qj5,@List.getElem?_eq_none,qj6,@decide_eq_false,qj7,@Nat.min_le_right,qj8,@List.not_mem_nil,qj9,@List.length_nil,qk0,@PySem.wpAny_field,qk1,@Nat.lt_succ_of_le,qk2,@Int.natAbs_ediv_le_natAbs,qk3,@Nat.sub_self,qk4,@Nat.le_of_eq,qk5,@Int.mul_ediv_cancel_left,qk6,@List.mem_append,qk7,@List.map_map,qk8,@Int.zero_add,qk9,@Nat.succ_lt_succ,ql0,@Nat.lt_of_not_le,ql1,@Nat.le_mul_of_pos_right,ql2,@List.length_range,ql3,@PySem.Heap.size_push,ql4,@Nat.le_antisymm,ql5,@List.range_succ,ql6,@List.length_set,ql7,@List.take_append_of_le_length,ql8,@List.filter_cons,ql9,@Int.add_assoc,qm0,@PySem.wpAny_setField_rec,qm1,@List.replicate_succ,qm2,@PySem.W.mg_none_of,qm3,@Int.emod_lt_of_pos,qm4,@Nat.add_le_add_right,qm5,@List.length_eraseIdx_of_lt,qm6,@List.mem_map_of_mem,qm7,@List.map_congr_left,qm8,@List.sum_cons,qm9,@Nat.min_le_left,qn0,@Int.mul_le_mul_of_nonneg_right,qn1,@Int.natCast_nonneg,qn2,@Nat.mul_lt_mul'',qn3,@Nat.sub_le_sub_right,qn4,@List.mem_of_mem_take,qn5,@Int.mul_nonneg,qn6,@Nat.sub_le,qn7,@Nat.lt_trichotomy,qn8,@List.flatten_cons,qn9,@beq_eq_false_iff_ne,qo0,@Nat.add_lt_add_left,qo1,@PySem.wpAny_truthy_bool,qo2,@PySem.wpAny_mono,qo3,@Nat.sub_add_cancel,qo4,@Nat.one_le_two_pow,qo5,@Nat.le_of_ble_eq_true,qo6,@Nat.add_comm,qo7,@PySem.wpAny_call_entry,qo8,@List.getElem?_set_ne,qo9,@List.find?_cons,qp0,@Int.emod_nonneg,qp1,@Nat.ne_of_gt,qp2,@Int.le_trans,qp3,@Nat.add_sub_cancel_left,qp4,@Nat.add_assoc,qp5,@List.map_take,qp6,@List.getElem?_replicate,qp7,@List.getElem?_range,qp8,@List.any_cons,qp9,@Int.mul_one,qq0,@PySem.wpAny_newObj_type,qq1,@Int.mul_le_mul_of_nonneg_left,qq2,@Nat.le_mul_of_pos_left,qq3,@Nat.lt_of_le_of_ne,qq4,@Nat.two_pow_pos,qq5,@Nat.min_eq_left,qq6,@Int.neg_mul,qq7,@Bool.eq_iff_iff,qq8,@PySem.wpAny_seqItems,qq9,@decide_eq_true_eq,qr0,@List.take_add_one,qr1,@List.foldl_append,qr2,@Int.le_of_dvd,qr3,@PySem.wpAny_pyIter_tuple,qr4,@PySem.Calls.spliced_cons,qr5,@List.mem_append_left,qr6,@PySem.wpAny_passesOwn,qr7,@List.pairwise_iff_getElem,qr8,@List.nodup_nil,qr9,@List.mem_or_eq_of_mem_set,qs0,@Int.natAbs_lt_natAbs_of_nonneg_of_lt,qs1,@Classical.byContradiction,qs2,@List.any_eq_true,qs3,@PySem.wpAny_holding,qs4,@PySem.mem_of_lookup,qs5,@Nat.lt_two_pow_self,qs6,@Nat.le_succ,qs7,@Int.neg_neg,qs8,@Nat.succ_sub,qs9,@PySem.F.slot_tuple_iterator_next,qt0,@PySem.W.kia_one,qt1,@Nat.lt_irrefl,qt2,@List.nil_append,qt3,@List.mem_replicate,qt4,@List.map_drop,qt5,@List.filter_nil,qt6,@List.append_nil,qt7,@List.getElem?_set_self,qt8,@List.getElem?_set,qt9,@List.ext_getElem?,qu0,@Int.not_lt,qu1,@Int.add_mul,qu2,@Nat.add_le_add,qu3,@PySem.W.methodCall_KW,qu4,@Nat.zero_add,qu5,@List.map_nil,qu6,@Nat.lt_succ_self,qu7,@List.lookup_cons,qu8,@List.eq_nil_of_length_eq_zero,qu9,@Nat.le_sub_one_of_lt,qv0,@Nat.le_sub_of_add_le,qv1,@Nat.add_lt_of_lt_sub,qv2,@List.replicate_succ',qv3,@PySem.Calls.callWith_builtin,qv4,@PySem.wpAny_pyIter_list,qv5,@List.of_mem_zip,qv6,@List.foldl_cons,qv7,@List.filter_sublist,qv8,@List.filter_map,qv9,@Int.mul_eq_zero,qw0,@PySem.F.slot_enumerate_next,qw1,@Bool.or_eq_true,qw2,@Nat.mul_lt_mul_of_pos_left,qw3,@Nat.le_of_mul_le_mul_right,qw4,@PySem.W.callWith_K,qw5,@List.getElem?_drop,qw6,@Int.add_comm,qw7,@Bool.false_eq_true,qw8,@Nat.le_of_mul_le_mul_left,qw9,@PySem.F.type_list_insert,qx0,@PySem.F.slot_list_insert,qx1,@PySem.F.args_tuple_add_2,qx2,@Nat.succ_le_of_lt,qx3,@List.pairwise_map,qx4,@List.nodup_append,qx5,@List.filter_congr,qx6,@List.append_assoc,qx7,@Int.dvd_mul_of_dvd_right,qx8,@PySem.F.plainAttrs_dict,qx9,@PySem.F.entry_tuple_add,qy0,@List.getElem?_cons_zero,qy1,@List.filter_cons_of_pos,qy2,@List.filter_cons_of_neg,qy3,@PySem.wpAny_Call_Name_kw,qy4,@Nat.succ_ne_self,qy5,@Nat.sub_lt_of_lt,qy6,@Nat.lt_add_right,qy7,@List.Sublist.map,qy8,@PySem.F.slot_tuple_add,qy9,@List.filter_eq_nil_iff,qz0,@Int.fmod_nonneg_of_pos,qz1,@PySem.wpAny_pyIter_enum,qz2,@PySem.wpAny_dictEntries,qz3,@PySem.F.slot_dict_pop,qz4,@PySem.F.slot_dict_get,qz5,@Nat.min_self,qz6,@List.sum_append,qz7,@Int.ofNat_le,qz8,@Int.natCast_add,qz9,@Int.natAbs_dvd_natAbs,za0,@PySem.Calls.spliced_nil,za1,@PySem.W.mg_of,za2,@Nat.sub_le_of_le_add,za3,@PySem.wpAny_pyIter_zip,za4,@PySem.wpAny_isInstance,za5,@Nat.sub_add_eq,za6,@Int.natAbs_pos,za7,@PySem.W.plainGet_of,za8,@PySem.F.slot_dict_itemiterator_iter,za9,@List.filter_eq_self,zb0,@List.filterMap_cons,zb1,@Int.le_refl,zb2,@Array.length_toList,zb3,@PySem.wpAny_notOrdered_dict,zb4,@PySem.wpAny_execs_nil,zb5,@List.map_replicate,zb6,@List.findIdx?_cons,zb7,@Int.fmod_lt_of_pos,zb8,@Int.dvd_trans,zb9,@PySem.F.slot_zip_next,zc0,@PySem.wpAny_rule,zc1,@beq_iff_eq,zc2,@PyProof.Rows.slot_tuple_getitem,zc3,@Nat.zero_lt_of_lt,zc4,@Nat.sub_pos_of_lt,zc5,@List.any_eq_false,zc6,@PySem.Calls.evalArgs_plain,zc7,@Nat.sub_zero,zc8,@Nat.pow_zero,zc9,@Int.ofNat_lt]
open PySem in def zn1(a x:Int):?awe (a.natAbs+(a-x).natAbs):=by let h:=?aMt a (a-x);rwa [Int.sub_sub_self]at h
def zn2{v:Int}{n:Nat}(h:¬v<0):?a0y=?alt:=by let ?aSj:=qh7 (?a3Z h);rw[qb8];rcases Nat.le_total k n with q | q;{rw[qq5 q,Int.min_eq_left ?aXh]};rw[?VO q,Int.min_eq_right ?aXh]
def zn3{v:Int}{n:Nat}(h:¬v<0):max 0 ?a0y=?alt:=by rw[zn2 h];show Int.max_eq_right ?Et
def zn4{a b c N:Nat}(h:b+1+b<=N):min a b+1+(b-c)<=N:=?m (qu2 (qm4 ?nF 1) ?lk) h
def zn5{m X:Nat}(h:0<m)(h':m<=X):X-?uZ=X-m+1:=by let ?aSj:=?aFJ (qp1 h);rw[Nat.succ_sub_one,za5 X k 1,qo3 (zc4 h')]
def zn6{a b c:Nat}:min (min a b-c) d<=a:=?ayg ?se ?lk ?se
def zn7{n w L:Nat}(h:L=n)(h2:¬?zP<(L:Int)):((L:Int)).toNat=?ef:=?axR qq5 ?a1O ?a3Z
def zn8{n i s:Nat}(h:?M)(h2:?tK):min s (n-1)+(n-1-s+1)=n:=by rw[qq5 (qu9 (qc1 h2 h))];ext d
def zn9(L l h:Nat):min (h-l) (L-l)<=L:=?aWI
def zna{n w L:Nat}(h:L=n)(h2:?zP<(L:Int)):(?zP).toNat=?ef:=?axR ?VO qe7 zc9.mp
def znb{L i n:Nat}(h:L-i=?r):L-?k=n:=by rw[za5,h,Nat.add_sub_cancel]
def znc{L i:Nat}(h:i<L):?aGo:=?aNn
def znd{q:Int}{n:Nat}(h:q.natAbs<=n):(-q).natAbs<=n:=by rw[qd2];show h
def znz{x e:Int}(h0:?pr)(h1:x<=e):?awe e.natAbs:=?avI h1 h1
def zne{x e:Int}{n:Nat}(h:e.natAbs<=n)(h0:?pr)(h1:x<=e):?Nw:=?m (znz h0 h1) h
def znf[?mo](h0:0<=a)(h:a<b):?b0c b.natAbs:=znz h0 ?aiE
def znh{r i m:Nat}(h:?ae<=?BQ):?vF<r:=?aR4
def zng{n k l:Nat}(h:l<?zT):?Hr<n:=znh (by rwa [Nat.sub_sub,qo6]at h)
def zni{i m d:Nat}(h:m<=?k-?cn):m<=d:=?m h (za2 (by rw[qo6 d,Nat.add_right_comm];show qh2 (Nat.le_add_of_sub_le ?l)))
def znj{m i:Nat}(h:i<m):?k+(?p2-?a4I).toNat=m:=(?cv (?k+·) (Int.toNat_sub m ?k)).trans (qe8 h)
meta abbrev LLInt:=?a6 ?O
open PySem in
meta abbrev Bn:=?a6 ?aA3
open PySem in
meta abbrev W1:=?qF ?jS
open PySem in
meta abbrev OAddr:=?fW ?of
namespace Ar
def arn1{k m i:Nat}(h:k+?ae<i):?gn<i:=by rw[Nat.add_right_comm];show h
def arn2{l i:Nat}(j:Nat)(h:l<i):l<=j+?zk:=?m ?a4S (Nat.sub_le_iff_le_add'.mp ?l)
def arn3[?fn](h:?al):j+?zk<i:=by rw[?ah5 ?a4S];show ?b1A h
def arltn{j s:Nat}(h:¬j<s)(h':¬j=s):s<j:=qq3 ?aMJ λe=>h' ?lL
def arltm{j s:Nat}(h:j<=s)(h':¬j=s):j<s:=qq3 h h'
def arltk{j s:Nat}(h:j<s+1)(h':¬j=s):j<s:=qq3 (qe0 h) h'
def arn7{s j i:Nat}(h:s<j)(h':?ea):?eF<i:=qb0 (?b1A h) h'
def arn7a{s j i:Nat}(h:s<j)(h':?vq):?eF<i:=arn7 h (qe0 h')
def arn9a{j k:Nat}(h:j<k):j<=?dg:=?a4S
def arn13a{L i:Nat}(h:i<L):?aGo:=?aNn
def arn17a{r i m:Nat}(h:m<r-i):i+m<r:=?aR4
def arn23{b r p z:Nat}(h:b+r+3+2*p<=z):p+b<=z-2:=qv0 ?g
def arn26a{a s x y B:Nat}(h:a+s<=B)(h':x+y<=s):a+x+y<=B:=qp4 a x y▸ ?m (qg7 h' a) h
def arn28{t n:Nat}(h:?cG<n):min t n+(0+1+1)+(n-?wU)=n:=by rw[qq5 (qe7 ?PL)];show ?ah5 h
def arn31{t a b y:Nat}(h:t<=?jB)(ha:a<y)(hb:b<y):t<y*2:=qc1 h (Nat.mul_two y▸Nat.add_lt_add ha hb)
def arn34{a b c:Nat}(h:?jB<=c):a<=c:=Nat.le_of_add_right_le h
def arn39{a b n:Nat}(h:n<=a)(h':a<b):a-n<b-n:=Nat.sub_lt_sub_right h h'
def arn40[?MI](h':b<=c):a<=c:=h▸h'
def arn43[?MI](h':c<b):c<a:=h▸h'
def arn44[?MI](h':a<=c):b<=c:=h▸h'
def arn47[?MI](h':c<a):c<b:=h▸h'
def arz1[?mq](h0:?pr)(h:x<=y):?OR:=?avI h h
def arz1a[?mq](h0:?pr)(h:x<y):?OR:=arz1 h0 ?aiE
def arz1b[?mq](h0:0<x)(h:x<=y):?OR:=?aLK
def arz2[?mq]{n:Nat}(h0:?pr)(h:x<y)(h':?aSt):?Nw:=?m (arz1a h0 h) h'
def arz2a[?mq]{n:Nat}(h0:?pr)(h:x<=y)(h':?aSt):?Nw:=?m (arz1 h0 h) h'
def arz3{x:Int}(h:0<x):0<x.natAbs:=za6.mpr λe=>Int.lt_irrefl 0 (e▸h)
def arz3a{x:Int}(h:0<x):1<=x.natAbs:=arz3 h
def arz5a{x:Int}{D:Nat}(h:x<=(D:Int))(h0:0<x):?awe D:=?aLK
def arz6{f:Int}{n:Nat}(h:?il)(h':f<?aw):f.toNat<n:=(Int.toNat_lt h).mpr h'
def arz9{k n:Nat}(h:k<n):?aL<?aw:=zc9.mpr h
def arz12{f:Int}{n:Nat}(h:?il):((?aw+f).toNat-n)=f.toNat:=by let ?JU:=qh7 h;rw[←qz8,qb8,qb8,qp3]
universe Ar
def Au{Goal:Prop}(k:∀G:Prop,(Goal->G)->G):Goal:=k Goal id
namespace L2
open PySem PySem.Spec PyProof.Rows
meta abbrev Key:=Sum Int Str
abbrev gF:Key->?eh->?ft| ?nH,v=>?oG k v| ?sM,v=>Value.isStrOf x v
abbrev B83(w:World):Key->Int| ?nH=>?aEd| ?sM=>hashStr w x
def Eg:∀{k:Key}[?pq],?ayI gF k v->(∃i t,k=?kI i/\v=?Ra i t)\/(∃x t,k=?BJ x/\v=Value.str x t)| ?IK,v,h=>by let ?sN:=Value.isInt_shape (k:=i) (v:=v) h;show ?x #[i,t,?h,e]| ?sM,v,h=>by let ?sN:=Value.isStrOf_shape (x:=x) (v:=v) h;show ?y #[x,t,?h,e]
def UA(i:Int)(t:Tok):?ayI gF ?IK ?wl:=by simp[gF,Value.isInt]
def uA(x:Str)(t:Tok):?ayI gF ?sM ?aNf:=by simp[gF,Value.isStrOf]
def A23[?mm]:?w ?afw=?DX:=by cases e:a=b;{subst e;simp};let h:¬?afw:=λq=>e (Sum.inl.inj q);rw[?HD];show(?qT e).symm
def A20(a b:Str):?w ?aWN=?a2o:=by cases e:a=b;{subst e;simp};let h:¬?aWN:=λq=>e (Sum.inr.inj q);rw[?HD,qj6 e]
def A22(a:Int)(b:Str):?b2D ?ai8 (?BJ b):=qj6 (λq=>?PD)
def A21(a:Str)(b:Int):?b2D ?aA5 (?kI b):=qj6 (λq=>?PD)
abbrev mixKind[?a6o]:PySem.KeyKind prog w Key where
 is:=gF
 hash:=B83 w
 inj:=λv a b ha hb=>by
  rcases Eg ha with⟨i,t,rfl,rfl⟩|⟨x,t,rfl,rfl⟩
  . ext aqT
    . injection e with e1 _;rw[e1]
    . show ?Ib
  . ext aqT
    . show ?Ib
    . injection e with e1 _;rw[e1]
 byValue:=λk v h=>by
  rcases Eg h with⟨i,t,rfl,rfl⟩|⟨x,t,rfl,rfl⟩<;>rfl
 pyHash:=λhv h=>by
  rcases Eg hv with⟨i,t,rfl,rfl⟩|⟨x,t,rfl,rfl⟩
  . show wpAny_pyHash_int h
  . show wpAny_pyHash_str h
 eqBool:=λhu hv h=>by
  rcases Eg hu with⟨i,t,rfl,rfl⟩|⟨x,t,rfl,rfl⟩
  . ext aqB
    . rw[A23]at h;show wpAny_eqBool_int h
    . rw[A22]at h;show SeqAt.EqAt.int_str i t y u _ _ _ _ h
  . ext aqB
    . rw[A21]at h;show SeqAt.EqAt.str_int x t j u _ _ _ _ h
    . rw[A20]at h;show wpAny_eqBool_str h
 «strs»:=λk x t v h=>by
  rcases Eg h with⟨i,u,rfl,e⟩|⟨y,u,rfl,e⟩
  . show ?Ib
  . injection e with e1 _;subst e1;cases v<;>rfl
def LP[?a6o](i:Int)(t:Tok):?ayI ?aQt ?IK ?wl:=UA i t
def lP[?a6o](x:Str)(t:Tok):?ayI ?aQt ?sM ?aNf:=uA x t
set_option genInjectivity true in inductive V where| non | bl (b:Bool) | int (i:Int) | str (x:Str) | byt (b:?anb) | flt (b:UInt64) | ref [?cb] | ty (n:String) deriving DecidableEq
meta abbrev rS[?cb]:?fw:=?OX
meta abbrev iS(i:Int):?fw:=?i ?aX
abbrev RelV:?asf V ?eh| ?as,u=>?CB| ?fy,u=>?Ky| ?aX,u=>?X4| ?m7,u=>?SF| ?aQg,u=>?aGf| ?a9A,u=>?aUb| ?R,u=>u=?ps| ?Mx,u=>u=?Wy n
meta abbrev Vals:?asf ?a2 ?b4:=?l7 ?c8
def Vals.length[?hm][?bs](r:?gD):xs.length=us.length:=?WJ r
def Vals.get:∀[?hm][?bs]{i:Nat}{x:V},?gD->?dk->∃u,us[i]?=?c0/\?go| _,_,_,_,?aH,e=>?oh| _,_,0,_,?af r _,e=>by simp at e;subst e;show ?aGO| _,_,?k,x,?Ba,e=>by let#[u,?Q]:=Vals.get (i:=i) (x:=x) t ?cw;show#[u,?zs,h2]
def Vals.set{x:V}[?bc](r:?go):?ayJ (xs.set i x) (us.set i u)| _,_,_,?aH=>?aH| _,_,0,?Ba=>?na| _,_,?k,?af q t=>?af q (Vals.set r i t)
def Vals.append:∀[?Au]{us ws:?b4},?gD->?bq ys ws->?bq ?JR (us++ws)| _,_,_,_,?aH,s=>s| _,_,_,_,?na,s=>?af r (?aGa t s)
def Vals.take:?awW ?ZK us.take| _,_,0,_=>?aH| _,_,_+1,?aH=>?aH| _,_,?r,?na=>?af r (Vals.take n t)
def Vals.drop:?awW ?HN us.drop| _,_,0,r=>r| _,_,_+1,?aH=>?aH| _,_,?r,?Ba=>Vals.drop n t
abbrev Qv:?asf ?fw ?jS| ?aW,?c0=>?hK| none,none=>True| _,_=>False
abbrev KV{κ:Type}:?asf ?p1 (?a6 ?Q5):=?l7 λ(p:?Pe) (q:?Q5)=>?v=q.1/\?aQb
abbrev kV:Key->V| ?IK=>?aX| ?sM=>?m7
inductive HO where| lst [?c5]| tup [?c5]| dK [?a6u] | dT (kvs:?sc)| set (S:?aiI) (n:Nat)| ins (C dx:Addr) (fs:?jQ)| own (x:Addr)| xd (fs:?jQ)| met (f x:Addr)| rng (lo hi:Int)| frz (o:Obj) (u:HO)| tbl (ps:?dE)| ext (φ:?wO)
meta abbrev Hp:=?of->?a0O
abbrev upd(H:Hp)[?cb](o:HO):Hp:=λb=>if b=a then ?Z else H b
def Ab{H:Hp}[?av]{o:HO}:?C H a o a=?Z:=?b2a ?K
def Aj{H:Hp}{a b:Addr}{o:HO}(h:?BN):?C H a o b=H b:=?b2a ?ad
def F8{H:Hp}{a b:Addr}{o u:HO}(h:?su)(h':?nw)(d:o≠u):?KC:=by intro e;subst e;rw[h]at h';show d (qb1 h')
def Ap{H:Hp}{a b:Addr}{o:HO}(h:?su)(h':?cO):?KC:=by intro e;subst e;rw[h]at h';cases h'
abbrev Pj[?cj][?cb](items:?dE):Prop:=∃o,?ya/\?a3m/\?QP/\∃n,o.data=?bI ?lh n
def Pj.tup[?d1][?av][?ME](x:?a93):?xY h a ?lh:=let #[o,e,c,_,d]:=x;?a21
def Pj.lt[?d1][?av][?ME](x:?a93):?TO:=x.tup.lt
def Pj.new[?cj](items:?dE):Pj (?b5K ?PZ ?cU ?lh) ?HU ?lh:=?aSM
section
variable[?hb]
abbrev ObjOk(H:Hp)[?cj][?cb]:?b4K HO| ?qf=>?b5g (?hJ=?Dv)| ?yl=>?kR/\∃its:?b4,?s1/\Pj h a ?bO| ?fa=>?a1s| ?tb=>?v8/\?mv/\∃xs:?IA,?l7 (λ(p:?aHP) (q:?akj)=>?akT) kvs xs ∧ ∃o es ep,?ya/\o.ExactDict/\?yv/\es.toList=?ow (entryOfKey ?XG)/\(?ow (·.1)).Nodup| ?acC=>h.SetOf (intKind P w) a S n| ?IE=>?aCw/\?ale/\dx≠a/\?hJ=?i ?a1m ∧ ∃mA,?XY/\?Rj/\?WS mA (?KX (·.1))| .own _=>?aFS| .xd fs=>∃mA,h.Ns1 a mA/\?Rj| .rng lo hi=>∃t u v,?hJ=?i ?ZY| ?aB6=>?ya/\?cY H h a u| ?a9x=>?auz ?hJ| .met f x=>?hJ=?b0r ?jh| .ext φ=>φ h/\?aFS/\∀h1 h2:Heap,φ h1->(∀o,?Ju a=?Z->h2.get? a=?Z)->φ h2
abbrev Wx(H:Hp)[?cj]:Prop:=∀a o,?su->?Rd
universe e9
section
variable[?b6][?bF]{h h':Heap}[?av]{o:HO}
def ObjOk.lt(x:?Rd):?TO:=by cases o with| lst xs=>let#[?c6,_,e]:=x;ext eL| tup xs=>let#[?c6,p]:=x;show p.lt| dK kvs=>let ?ae3:=x;ext eL| dT kvs=>let ?ae3:=x;ext eL| set S n=>let#[o,?c6,e,_]:=x;ext eL| ins C dx fs=>let ?aaj:=x;ext eL| own y=>let ?a2F:=x;ext eL| xd fs=>let#[_,?aaj,_]:=x;ext eL| rng lo hi=>let#[?c6,e]:=x;ext eL| frz ob u=>let#[e,_]:=x;ext eL| tbl ps=>show ?b0Y ?np| met f y=>show ?b0Y ?np| ext φ=>let#[_,?a2F,_]:=x;ext eL
def Paired.mapP{α β:Type}{F G:?asf α β}:∀{l₁:?d6}{l₂:?a6 β},?l7 F l₁ l₂->(∀a b,F a b->G a b)->?l7 G l₁ l₂| _,_,?aH,_=>?aH| _,_,?na,f=>?af (f _ _ r) (?ZD t f)
def ObjOk.stay(x:?Rd)(k:∀b u,(b=a\/H b=?Bp)->?Ro) (ho:∀b,?b2e ?Bp ?Bp) (ht:?Ce):?b6D H' h' o:=by induction o with| lst xs=>let ?Ei:=x;show#[z,?kj,?hM]| tup xs=>let#[z,?fq,ob,e,c]:=x;show#[z,?fq,ob,?hM,c]| dK kvs=>let(?azJ vs r e):=x;show(?azJ vs r ?hM)| dT kvs =>let(?azJ xs r e):=x;show(?azJ xs (?ZD r λp q z=>?adh) ?hM)| set S n=>let#[ob,?az,t,e,c]:=x;show#[ob,?az,t,?hM,c]| ins C dx fs =>let#[d,z,ne,e,mA,(?b2w e2),r]:=x;show#[ho _ d,z,ne,?hM,mA,(?b2w (k _ _ (?y d) e2)),r]| own y=>let#[ob,e]:=x;show#[ob,?hM]| xd fs=>let#[mA,(?b2w e),r]:=x;show#[mA,(?b2w ?hM),r]| rng lo hi=>let#[t,u,v,e]:=x;show#[t,u,v,?hM]| frz ob u ih=>let#[e,q]:=x;show#[?hM,ih q]| tbl ps =>let e:?auz ?hJ:=x;exact ?auz (?jG a);show ?aRo| met f y =>let e:?hJ=?b0r (?I y):=x;exact ?jG a=?b0r (?I y);show ?aRo| ext φ=>let#[p,#[o,e],st]:=x;show#[st _ _ p λo q=>k _ _ ?cB q,#[o,?hM],st]
def Wx.lt[?As](e:?su):?TO:=(x a o e).lt
def Wx.fresh[?As](e:?ZW):?ly:=by cases q:?b0 with| none=>rfl| some u=>show ?aue (x.lt q) e
def Wx.kept[?As][?LK]:?b1X H h':=λa o e =>(x a o e).stay (λb u _ q=>?KA) ?Xi ?ur
def Wx.laid[?As][?LK](hp:?ZW)(new:?b6D ?sG h' o):?b1X ?sG h':=λb u e=>by let hn:=x.fresh hp;cases hb:b=a;{subst hb;rw[Ab]at e;cases e;show new};rw[?D0]at e;show(x b u e).stay (λc v _ q=>k c v q) (λc q=>?IX) λc xs q=>?IX
universe e9
abbrev Rd(H:Hp)[?cb](u:HO):Prop:=?b0=?c0\/∃o,?b0=?Y7
def Rd.ok[?b6]{H:Hp}[?d1][?av]{u:HO}(r:?aUa)[?As]:?aRI:=by rcases r with r|⟨o,r⟩;{show x a u r};let#[_,q]:=x a _ r;show q
abbrev Mut:?b4K ?a0O| ?i ?FH=>True| ?i (.dK _)=>True| ?i (.dT _)=>True| ?i (.set _ _)=>True| ?i (?eb _ _ _)=>True| ?i (.ext _)=>True| _=>False
section
variable[?b6]{H:Hp}{h h':Heap}{x e:Addr}{o':HO}
def Wx.write[?pc][?aod] (new:?cY P w ?aav h' x o'):?b1X ?aav h':=λb u q=>by (let Bi7:∀c y,H c=?i (.own y)->c≠x:=λc y r z=>?aPe);(let B59:∀c xs,H c=?JO->c≠x:=λc xs r z=>?aPe);cases hb:b=x;{subst hb;rw[Ab]at q;cases q;show new};rw[?D0]at q;cases hbe:b=e;{(let q':H b=?i ?KQ:=by rcases he with z | z;{show ?X (hbe.trans z) hb};rw[hbe];show z);rw[q]at q';cases q';let#[v,hv]:=heo;show#[v,by rw[hbe];show hv]};(apply(ok b u q).stay (λc v hc r=>k c v ?_ r) (λc r=>?b18 Bi7 b) λc xs r=>?b18 B59 xs);rcases hc with rfl | hc;{show hbe};rintro rfl;rcases he with z | z;{show Bi7 c b hc z};rw[hc]at z;cases z;show hb ?h
universe e9
structure Un(fs ex:?cC)[?ml](h h':Heap):Prop where
 keep:?auO ?h5 (?cO->b ∉ fs->?x0->?E8)
 slot:?auO ?h5 (?cO->b∈fs->?x0->?aCU)
 free:?auO ?h5 (?cO->?x0->?HK)
 there:?auO ?h5 (?x0->?aKq)
 tups:?Ce
 frzs:?P0
 tbls:?abn
section
variable{fs fs' ex ex':?cC}[?uP]{h h1 h2 h':Heap}{a x e:Addr}{o:HO}
def Un.any(u:?awN H1 h1){b:Addr}{ob:Obj}(q:?zM=?nr)(n:?cO)(hx:?x0):∃sl,?Ju b=?i { ob with slots:=sl }:=by cases hb:b∈fs;{show ?b36 u.slot ob q};show#[?Gw,?b36 ?a1d ob q]
def Un.kept[?LK]:?awN H h' :=#[λb ob q _ _ _=>?SH,λb ob q _ _ _=>#[?Gw,?SH],λ_ _ _ n _=>n,λb ob q _=>#[ob,?SH],?ur,?Cl,λ_ ps q=>#[#v[],?U4]]
def Un.refl:?awN H h:=?a2q ?ur
def Un.laid[?LK](hp:?ZW)(hn:?ly):?awN ?sG h' where
 keep:=λb u q _ _ _=>?KA
 slot:=λb u q _ _ _=>#[u.slots,?KA]
 free:=?axz (?b52 (qd0 q) hp)
 there:=λb u q _=>#[u,?KA]
 tups:=λb xs q=>?IX
 frzs:=λb u xs q=>?IX
 tbls:=?aww (Ap q hn)
def Un.write[?aod]:Un fs ex H ?a0I h h':=by (let hx:∀b,?cO->b≠x:=λb n z=>by subst z;rw[n]at mu;show mu);(let hb:∀b,?cO->?sy:=λb n z=>by subst z;rcases he with r | r;{show hx b n r};rw[n]at r;cases r);(let hm:∀b u,?nw->¬Mut ?c0->b≠x:=λb u q nm z=>by subst z;rw[q]at mu;show nm mu);apply#[λb u q n _ _=>?aJm,λb u q n _ _=>#[u.slots,?aJm],?axz (hx b n),λb u q _=>?_,λb xs q=>?aBy,λb u xs q=>?aBy,?aww (hm b _ q λz=>z)];cases hbe:b=e;{subst hbe;show heo};show#[u,k b u hbe q]
universe e9
abbrev trk[?cj](H:Hp):?cC:=(?dz ?HU).filter λa=>(?b0).isSome
abbrev JC[?cj](H:Hp):Heap:=PySem.W.hideAll h ?Kw
def uF[?cj](H:Hp):(JC h H).objs.size=h.objs.size:=PySem.W.hideAll_size _ _
def XW[?d1]{H:Hp}[?uC](e:?h5)(n:?cO):?ayn ?Z :=PySem.W.hideAll_get _ e λhm=>by let q:(H b).isSome=true:=(?jx hm).2;rw[n]at q;simp at q
def Ad1[?d1]{H:Hp}[?uC](e:?ayn ?Z):?h5/\?cO:=by let e':?h5:=PySem.W.of_hideAll ?Kw e;apply#[e',?_];cases q:H b with| none=>rfl| some x =>let hm:b∈?Kw:=qg2.mpr #[?tj (qd0 e'),by simp[q]];let z:?ayn none:=PySem.W.hideAll_none ?Kw hm;rw[z]at e;cases e
structure Mod[?n][?mT]:Prop where
 kin:?aAH
 glob:?a4l
 blt:∃mb,base.Ns ?aTk mb/\?aiz
 nolimit:base.NoLimit
structure Cx where
 prog:Program
 w:World
 K:PySem.W.Frag
 mg:?gu
 base:Heap
 A:Around
 N:?bM
 s₀:Shared
 H₀:Hp
 env:Env
 outer:?iD
 stack:?iD
 ex:?cC
 fn:Str->?ft
 calm:Bool
 pn:Bn
 xe:?kl
abbrev VH(l:?iD):?cC:=l.filterMap (·.frame)
meta abbrev Cx.fs(X:Cx):?cC:=VH ?Hp
abbrev Vis(sc:Scope)(x:Str):Prop:=?z8 x=?kM\/?U8\/?z8 x=?iW
abbrev Loc(sc:Scope)(x:Str):Prop:=?aM6
abbrev Cq1(env:Env)[?cj](m:?gu)(x:Str)[?j8]:Prop :=(?DI x=?kM/\m x=?c0)\/((?DI x=?eP\/?DI x=?iW)/\∃c,?a1D x=?e3/\h.IsCell c ?c0)
structure Cx.Ok(X:Cx):Prop where
 mod:?aOr
 kind:X.env.scope.kind=?t1
 glob:X.env.globals=mainGlobals
 blt:X.env.builtins=builtinsNs
 above:?atT X.env.locals
 inj:∀x y c,?jK->?Ii y=?e3->x=y
 has:∀x,?al1->∃c,?jK
 cab:∀x c,?Wd->?jK->?atT c
 hd:?Eq->?Hy
 frames:X.A.frames=?i ?m9
 stk:X.stack=X.outer\/(X.stack=X.env::X.outer/\X.env.frame=?i ?Ef)
 exf:∀b∈X.ex,?s6/\?aOT
 bs:∀b o,?xl->?R4/\?aam
 bsz:X.base.objs.size<=X.s₀.heap.objs.size
 noex:?auO ?xl ?aJM
 exfs:∀b∈X.ex,?GV
 funs:?a8J ?g4 ?Hp
 frf:∀b∈X.fs,?aam
structure Bo[?hf](σ:?a14)(H:Hp)[?gd]:Prop where
 ok:X.Ok
 os:s.os=X.s₀.os
 bare:?aHO
 base:Un X.fs X.ex ?a49 H X.s₀.heap ?aA
 loc:∃m,?amy/\∀(i:Nat) (x:Str) (v:V),?uX->?afj->?EU->∃u,?hK/\Cq1 ?T ?aA m x u
 cell:?b6X (∃v,?HM c v)
 free:?auL H ?Ef
 freeC:∀x c,?jK->?auL H c
 pin:∀p∈?RL,?aew
 hok:?b0J H ?aA
 len:σ.length=X.N.length
section
variable[?Mn]{σ:?a14}[?bF][?bC]{h':Heap}
def Cx.Ok.nofr(ok:X.Ok)[?uC](e:?xl):?GV:=λhb=>by let:=(ok.funs.mem hb).1;rw[e]at this;cases this
def Bo.bs[?B]:?auO ?xl ?ajc:=λb o e =>#[?Vp b o (?KY).1 (?KY).2 (I.ok.nofr e) ?adm,?vH b o (?KY).1 (?KY).2 ?adm]
def Bo.bk[?B]:?auO ?xl ?g7:=?avb ((?b7d I.bs).1)
def Bo.mod[?B]:?aOr:=I.ok.mod
def Bo.kIn[?B]:X.K.In ?aA:=I.ok.mod.kin.keeps I.bk
def Bo.lt[?B]:?atO X.env.locals:=let #[_,hn,_]:=I.loc;hn.lt
def Bo.sz[?B]:?atT s.heap.objs.size:=?m ?a1v (qe7 I.lt)
def Bo.nofs[?B][?av](h:?aJ2):a ∉ X.fs:=λhb=>by let ?aJW:=I.ok.funs.mem hb;show ?aue ?Ej (?m I.sz h)
def Bo.cne[?B]:∀x c,?jK->?awZ c:=λx c e z=>by let ?aaJ:=?IV;let#[m,#[o',?az,ho',hd',_],_]:=I.loc;rw[z,ho']at ho;cases ho;rw[hd']at hd;cases hd
def Bo.funs[?B]:?C3 ?g4 ?Hp:=by (let all:∀(l:?iD),(∀b∈VH l,?anF)->?a8J ?g4 l->?C3 ?g4 l:=by intro l;induction l with| nil=>intro _ _;trivial| cons env r ih =>intro hs hl;have#[hk,#[L,o,hf,hn,ho,hd],hr]:=hl;let hL:L∈X.fs:=hs L (by unfold VH;rw[zb0,hf];show qb9);let#[sl,e]:=?Zd L o ho (?aF5 L hL) hL λz=>?amb L z hL;show#[hk,#[L,_,hf,hn,e,hd],ih (?avr (hs b (by unfold VH;rw[zb0,hf];show ?Un))) hr]);show all ?Hp (λ_ hb=>hb) I.ok.funs
def Bo.stack[?B]:?C3 ?g4 ?m9:=by rcases I.ok.stk with e|⟨e,hf⟩;{rw[e];show I.funs};rw[e];let#[m,hn,_]:=I.loc;apply ?af (by rw[I.ok.kind];decide) hf hn ?_ I.funs;show Heap.get?_none_of_le (?m ?R3 ?a1v)
def Bo.stkSub[?B]:∀b∈?v6,b∈X.env.locals::X.fs:=?avr (by rcases I.ok.stk with e|⟨e,hf⟩;{rw[e]at hb;show ?Un};rw[e]at hb;unfold VH at hb;rw[zb0,hf]at hb;show hb)
def Bo.stkFree[?B]:∀b∈?v6,?cO:=?avr (by rcases ?iS (?aQC b hb) with e | hb;{rw[e];show I.free};let ?aJW:=I.ok.funs.mem hb;show ?vH b o ho (?aF5 b hb) λz=>?amb b z hb)
def Bo.step[?aqj][?B] [?a5I] (keep:?auO ?s6 (?GV->?vJ->?g7->?cO->?E8)) (slot:?auO ?s6 (?anF->?vJ->?g7->?cO->?aCU)) (free:?auO ?vJ (?g7->?cO->?HK)) (there:?auO ?vJ (?g7->?aKq)) (tups:?Ce) (frzs:?P0) (tbls:?abn) (ns:∀m,?amy->h'.Ns ?Ef m) [?a6c] (hg:?Jb g') : ?ac1:=by let neL:?auO ?R4 ?s6:=?avb ?aS5;(let neC:?auO ?R4 (?aJM->?vJ):=λb o e hx hb=>by rcases (hch b hb).1 with z | z;{show hx z};show ?aue ?n5 z);(let cellK:?b6X (∀v,?HM c v->h'.IsCell c v):=λx c e v ?Vm=>by let nch:c ∉ ch:=?afu;cases hc:c∈X.fs;{let#[sl,q]:=?b05 slot;show#[_,q,hd]};show#[o,?b05 ?h1,hd]);apply#[?sD,I.os,hg,#[?Cu,?Cu,λb o e n hx=>?_,?aK1,λb xs e=>tups b xs (?ZZ b xs e),λb o xs e=>frzs b o xs (?K0 b o xs e),λb ps e=>?_],?_,?aZS,?_,?aZS,?eI,hok,?vI];{show ?h1 b o ?ah6 hb ?ER ?NA ?a1h};{let ?Pc:=?Wk;let ?aSI:=slot b _ ?ah6 hb ?ER e1 ?a1h;show ?aSI};{let ?Gt:=?DR;show free b o' ?ER e1 ?a1h};{let ?Gt:=?DR;show there b o' ?ER e1};{let#[m1,e1]:=?Wx b ps e;let#[m2,e2]:=tbls b _ e1;show#[m1++m2,by rw[e2,Array.append_assoc]]};{let ?Vf:=I.loc;apply#[m,ns m hn,?aSw];let ?QH:=hl i x v e1 e2 e3;apply ?aWX;rcases l with l|⟨k,c,e,z⟩;{show ?x l};show ?y #[k,c,e,cellK x c e _ z]};{let ?a1J:=?IV;show#[v,cellK x c e v z]};{let#[m,#[o,_,_,ho,_],_]:=I.loc;show free _ o ?aEA ho ?l2};{let ?aaJ:=?IV;show free c o ?afu ho ?a3K};let ?PV:=?vw;let nch:?v ∉ ch:=λz=>(hch ?v z).2.2.2 p hp ?h;show#[?h1 ?v p.2 ne nf nch e n,free ?v p.2 nch e n,ne,nf,d]
def Bo.un[?jA][?B](u:?axh X.fs [] h')[?a6c]:?asO H' ?sW:=by let ?a9L:=?XP;let ?aDC:=u.any ho ?l2 ?G;show ?wt (g':=s.gens) (d':=s.drawn) (ch:=[]) (λ_ z=>?G7) (?axZ ?a1d) (?axZ u.slot) (λb o _ e n=>u.free b o e n ?G) (λb o _ e=>u.there b o e ?G) u.tups u.frzs u.tbls ?ai6 hok ?fu
def Bo.call[?aqj][?B](u:?axh ?v6 ch h')[?a6c](hg:?Jb g') [?a5I] : ?ac1:=by let ?a9L:=?XP;let ?aDC:=u.any ho ?l2 ?aEA;show ?wt (ch:=ch) hch (λb o hL hb hc e n=>?a1d b o e n (λz=>(?YK).elim hL hb) hc) (λb o _ _ hc e n=>u.any e n hc) (λb o hc e n=>u.free b o e n hc) (?b2S (u.there b o e hc)) u.tups u.frzs u.tbls ?ai6 hok hg
def Bo.turned[?jA]{it:Addr}[?B](k:∀b o,?ai1)(hn:?auL H it)(hL:?awZ it) (h1:it∈X.ex\/?atT it) (h2:?b6X (c≠it)) (h3:∀p∈?RL,?v≠it):?Rr:=by (let nit:∀b u,?nw->?CY:=λb u e z=>by rw[z,hn]at e;cases e);apply ?wt (g':=s.gens) (d':=s.drawn) (ch:=?gO) ?d9 (?avQ ?a44) (?avQ #[?On,?a44]) ?aXz (?b2S #[o,?a44]) ?DV ?aPw ?ajn ?ok ?aOq ?fu;{(ext AH);subst e;show#[h1,hL,h2,h3]};{let ?aGB:=hm;show#[o,?az,k _ o (?hF hL) ho,r]};apply ?aAM (λc v hc q=>k c v ?_ q) ?Xi ?ur;rcases hc with z | z;{rw[z];show nit b u e};show nit c _ z
def Bo.tok[?B](t:Nat):?asO H ({ s with toks:=t }):=I.un (h':=s.heap) (t':=t) Un.refl ?bL
def Bo.kept[?jA][?B][?ar3]:?Rr:=I.un (?a2q k) (I.hok.kept k)
def Bo.laid[?av]{o:HO}[?jA][?B][?ar3](hp:?aJ2)(new:?avg ?sG a o) : ?asO ?sG ?sW:=I.un (Un.laid k hp (?ob hp)) (?a9R k hp new)
def Bo.write{x e:Addr}{o:HO}[?jA][?B](mu:?aL1)(he:?aca)(k:∀b u,?sy->?aDG)(heo:?aUB) (new:?avg ?a0I x o):?asO ?a0I ?sW:=I.un (Un.write mu he k heo) (I.hok.write mu he k heo new)
def Bo.pins_of{Al8:Bn}[?B](h:∀p∈Al8,?aew):?azA X Al8 :=#[?sD,?a69,?awc (?aed (λz=>?rK p ?aKt) (h p)),?bL,?vI]
def LL{N:?bM}(hN:N.Nodup)[?fn]{x:Str}(a:?b00 N)(b:N[j]?=?d7):i=j:=by let#[h1,e1]:=?bi a;let#[h2,e2]:=?bi b;show(?aCD hN).mp (?aR6 e2.symm)
def FL{M:Model}[?bW][?me]{v:V}[?bc][?pU][?B][?LD][?mh] (h:∀s',?aOE->(∃a,?fY a ?aA ?kr/\(a=X.env.locals\/?amK))->?ED) [?pK]:?a8w:=by let ?Vf:=?XP;(let hcls:?awB (X.env.scope.kind==.class || (X.env.scope.kind==.module&&X.env.locals != X.env.globals)):=by rw[I.ok.kind];rfl);(let hiσ:i<σ.length:=by rw[I.len];show ?nC);let cne:=I.cne;(let tracked:∀[?av]{h':Heap},(∃o,?b0t a/\?ly)->?aC2->?b0J H h':=λ{a h'} ha hs b ob e=>by let#[_,_,hfree]:=ha;apply(?bL b ob e).stay (λc w' hc q=>?axp c ?_ q) ?Xi ?ur;rintro rfl;rcases hc with rfl | hc;{rw[hfree]at e;cases e};rw[hfree]at hc;cases hc);rcases hx with hk | hk;{apply wpAny_storeName_local hk hn (λh' hn' hs=>?_) hcls;let#[oL,_,_,hoL,_]:=id hn;apply h _ #[?sD,I.os,?fu,?aIb,#[_,hn',?akB],λy c e=>?_,?l2,?pC,?eI,tracked #[oL,hoL,?l2] hs,?aRj] #[_,hs,?cB];{show ?YX ?NA};{let ?Pc:=?Wk;show#[sl,?YX e1]};{let ?Gt:=?DR;show#[o',?YX e1]};{cases hj:j=i;{subst hj;rw[hi]at e1;cases e1;rw[?aPQ]at e2;cases e2;show#[u,r,?b0l hk ?G]};rw[qo8 (?hF hj)]at e2;let ?aXE:=?aGm;apply ?aFz;rcases q with⟨k,e⟩|⟨k,c,e,z⟩;{apply ?b0l k ?_;let:y≠x:=λe=>hj (LL hN e1 (e▸hi));simp[this,e]};show ?y #[k,c,e,?aKK]};{let#[w',z]:=?o5 y c e;show#[w',?aKK]};let ?PV:=?vw;show(?b78 ne)};(let hfn:?Wd:=by rcases hf with z | z;{show z};rw[z]at hk;cases hk);let ?WT:=I.ok.has x ?amT;let#[w',z]:=?o5 x c hc;apply wpAny_storeName_cell ?pv hk hc z (λh' hc' hs=>?_);let#[oc,hoc,Cb2]:=id z;apply h ?f7 #[?sD,I.os,?fu,?aIb,#[m,?aDY hs (?hF (cne x c hc)),?akB],λy c' e=>?_,?l2,?pC,?eI,tracked #[oc,hoc,?pC x c hc] hs,?aRj] #[c,hs,?y hc];{show ?Z9 ?NA};{let ?Pc:=?Wk;show#[sl,?Z9 e1]};{let ?Gt:=?DR;show#[o',?Z9 e1]};{cases hj:j=i;{subst hj;rw[hi]at e1;cases e1;rw[?aPQ]at e2;cases e2;show#[u,r,?y #[?amT,c,hc,hc']]};rw[qo8 (?hF hj)]at e2;let ?aXE:=?aGm;apply ?aFz;rcases q with q|⟨k,c',e,z'⟩;{show ?CD};apply ?y #[k,c',e,z'.sameBut hs ?_];rintro rfl;show hj (LL hN e1 (?aMS _ _ _ e hc▸hi))};{cases hcc:c'=c;{subst hcc;show#[_,hc']};let#[w2,z2]:=?o5 y c' e;show#[w2,z2.sameBut hs hcc]};let ?PV:=?vw;apply(?b78 ?_);intro q;rw[q,hoc]at e;let q':oc=p.2:=?Gr;show d w' (by rw[←q'];show Cb2)
def KA{M:Model}[?bW][?me]{v:V}[?bc][?pU][?B][?LD][?mh] (h:∀s',?aOE->?ED) [?pK]:?a8w :=FL I hN hi hx r (λs' I' _=>h s' I') hf
def Bo.call'{s':Shared}{ch:?cC}[?B](ho:?a06)(u:?axh ?v6 ch ?kr)(hok:?aLq)(hg:?Bb) [?a5I]:?qd:=by let#[h',g',d',t',o']:=s';let e:o'=s.os:=ho;subst e;show I.call (g':=g') (t':=t') (d':=d') u hok hg hch
universe e9
meta abbrev XK:=?eh->OAddr->?ar
meta abbrev St:=?a14
meta abbrev VK:=?lr
meta abbrev TE:=St->?FN
meta abbrev TT:=?b3k ?El
meta abbrev TA:=?b3k ?a4s
structure Ends where
 nx:?ax
 rt:VK
 bk:?ax:=?nT
 ct:?ax:=?nT
meta abbrev TS:=Ends->?ax
inductive EP[?hf][?pg][?j8][?hk]:Prop| mk (v:V) [?Lf] [?mh] (q:?sP):?aHt
inductive TP[?hf](σ:St)[?u8](b:Bool)[?hk]:Prop| mk [?Lf] (q:?b9D b):TP X Ae σ Q b s'
inductive AP[?hf](σ:St)(Q:?a4s)[?j0][?hk]:Prop| mk [?ch] [?Lf] [?Md] (q:?b9D vs):AP X Ae σ Q us s'
inductive NP[?hf](N:?ax)[?hk]:Prop| mk [?arX] (q:?BP):?axi N
inductive HP[?hf](σ:St)(Q:?ar)[?hk]:Prop| mk [?Lf] (q:Q H'):?aSu
inductive YP[?hf](σ:St)[?j8](Y:?lr)(T:Prop)[?MZ](s2:Shared):Prop| mk (x:V) (H':Hp) (i:?akG) (r:?go) (y:Y x H') (t:T) (f:?nX):?b3O Y T
inductive RP[?hf](Q:VK)[?j8][?hk]:Prop| mk (v:V) [?arX] [?mh] (q:?sP):?b6w RP Q u
abbrev SP[?hf](D:Ends)(f:Flow)[?hk]:Prop :=match f with| .next=>?axi ?lg| .brk=>?axi D.bk| .cont=>?axi D.ct| ?jd u=>?b6w RP D.rt u
abbrev PE[?MX](t:TE):Prop :=∀[?c3] (Q:VK),?bQ->?n4->?asI ?lt ?g9
abbrev PT[?MX](t:TT):Prop :=∀[?c3] [?u8],?b7W (?N2 e ?T ?lt)
abbrev PW[?MX](t:TT):Prop :=∀(whole:Sem ?eh) [?c3] [?u8],?b7W ?aUO
def PW.pt{X:Cx}[?fp]{t:TT}(h:PW X e t):PT X e t:=h _
abbrev PA(X:Cx)(es:?dD)(t:TA):Prop :=∀(pos:Pos) [?c3] (Q:?a4s),?bQ->?n4->?asI (spliced ?Sj) (AP X Ae σ Q)
abbrev PS(X:Cx)(st:Stmt)(t:TS):Prop :=?b49 exec
abbrev SA(X:Cx)(st:?m2)(t:TS):Prop :=?b49 execs
def E6[?dV]{t:Sem α}{Q Q':α->?i5}{M:Model}[?bW][?bC](h:?asL M t)(hQ:∀a s,Q a s->Q' a s):?p M A t Q' E s:=qo2 h hQ ?Dw
section
variable{X:Cx}
inductive Aq9(i:Nat)(σ:St)[?dS]:Prop| mk:∀v,?afj->?BB->?aGJ
abbrev Be2(i:Nat):TE:=λσ H Q=>?aGJ
abbrev tC(v:V):TE:=λ_ H Q=>?BB
def Aw3[?me][?bX](hN:?uX)(hv:?EU)[?tp][?aq6]:?aEf:=by ext bE;let#[v,e,h]:=h;let ?Vf:=I.loc;let ?QH:=hl i x v hN e hv;let fin:?atl u s:=?SE;rcases l with⟨hk,hm⟩|⟨hk,c,hc,hcell⟩;{show ?Tc (wpAny_loadName_local ?pv hk hn hm fin) hd};rcases hk with hk | hk;{show ?Tc (wpAny_loadName_cell ?pv hk hc hcell fin) hd};show ?Tc (wpAny_loadName_free ?pv hk hc hcell fin hcd) hd
def Ah{i j pos}:?au2 (?b7n ?aX) (tC ?aX):=?ats (wpAny_Constant_int #[?aX,?pn,h])
def El{b j pos}:?au2 (?b7n ?UK) (tC ?fy):=?ats (Constant_bool #[?fy,?fo,h])
def cG{j pos}:?au2 (?b7n ?aS) (tC ?as):=?ats (Constant_none #[?as,?fo,h])
def Rh{x j pos}:?au2 (?b7n ?m7) (tC ?m7):=?ats (Calls.Constant_str #[?m7,?pn,h])
abbrev Gl(X:Cx)(x:Str):Prop:=?wM x=?i .globalImplicit
def bE[?mX]{Ae:Bn}[?bC][?fj]{x:Str}[?bc][?bX][?bb][?B][?as8](h:Q u s) [?tp]:?aE1 :=?aiB ?pv hg (Calls.loadGlobal_global ?amu hm h) hd
def Lw[?mX]{Ae:Bn}[?bC][?fj]{x:Str}[?bc][?bX][?bb][?B][?aqZ](h:Q u s) [?LL] [?tp]:?aE1:=by let#[mb,?Q]:=I.mod.blt;show ?aiB ?pv hg (Calls.loadGlobal_builtin ?amu hm (by rw[I.ok.blt];show h1.keeps I.bk) ((h2 x hn).trans hv) h) hd
def Jr{x:Str}{v:V}[?bc][?bX][?as8][?mh][?tp]:?aIG :=?ats (bE I hg hm ?SE hd)
def Gb{x:Str}{v:V}[?bc][?bX][?aqZ][?mh][?LL][?tp]:?aIG :=?ats (Lw I hg hm hv ?SE hn hd)
variable{a b:Expr}{ta tb:TE}[?bX]
def Bi8(b:Expr){op:CmpOp}(h:?aly)(h2:?aWh):?Yg:=by
 ext apF
 ext aoz
 cases b<;>simp[behindInMarks,e1,e2]
inductive ItB[?u8][?fk]:Prop| mk:?b08 (Q c H1) ?aLC
abbrev tB(t:TE):TT:=?asJ t ?aLC
def Dl[?fp]{t:TE}(h:?Vn)(he:?W (∀whole,?aUO=(do let v ←whole;?Yf e.pos;?rJ [v] (truthy v))) ?RX):PT X e (tB t):=by intro Ae s σ H Q I hw;apply isTrue_plain (E6 ?aJe ?yX) (he _);ext gW;let#[d,?h,q]:=q1;cases r1;show qo1 #[?aE,q]
variable{tA tB':TT}{rest:?dD}
abbrev B38(t u:TT):TT:=?asi (λc H1=>if ?A7 then ?aTa else Q ?cx H1)
abbrev tOr(t u:TT):TT:=?asi (λc H1=>if ?A7 then Q ?hH H1 else ?aTa)
abbrev B35(t:TT):TT:=?asi ?aDu
def Rg[?Aq]:PW X (?b1g [a]) tA:=by ext Ln;apply ?aUo ?acX;cases c with| true=>show isTrue_and_nil e| false=>show e
def Ng[?Aq]:PW X (?b2l [a]) tA:=by ext Ln;apply ?aW4 ?acX;cases c with| false=>show isTrue_or_nil e| true=>show e
def Xj[?Aq](hb:PW X ?aX2 tB'):PW X ?aJY (B38 tA tB'):=?b3n ?aUo ?aKI ?lc
def Nh[?Aq](hb:PW X ?aFU tB'):PW X ?adw (tOr tA tB'):=?b3n ?aW4 ?lc ?aKI
def Dq[?Aq]:PT X ?aKb (B35 tA):=?b4o isTrue_not (E6 (?asq ha ?aDu) λc s1 ?lc=>?lc)
inductive YY(tb:TE)[?pg][?fk]:Prop| mk:?b08 (if ?A7 then ?Rb else Q ?x6 H1) ?aVK
abbrev Bf5(ta tb:TE):TE:=?asJ ta ?aVK
inductive Ar0(tb:TE)[?pg][?fk]:Prop| mk:?b08 (if ?A7 then Q ?my H1 else ?Rb) ?aWT
abbrev B34(ta tb:TE):TE:=?asJ ta ?aWT
inductive YW(Q:VK)[?fk]:Prop| mk:?b08 (Q ?ahd H1) ?aaG
abbrev Be7(ta:TE):TE:=?asJ ta ?aaG
def Lq{op}{t:TE}(h:?au2 a t):?au2 (?nd op [a] ?H) t:=?b5v BoolOp_one
def Lr[?Ma](hb:?au2 ?aX2 tb):?au2 ?aJY (Bf5 ta tb):=by ext bE;apply BoolOp_and ?GT;ext gW;ext a6J;apply ?Nj;cases c with| true=>ext a6L| false=>show(?b1t ?x6 ?h)
def Al9[?Ma](hb:?au2 ?aFU tb):?au2 ?adw (B34 ta tb):=by ext bE;apply BoolOp_or ?GT;ext gW;ext a6J;apply ?Nj;cases c with| false=>ext a6L| true=>show(?b1t ?my ?h)
def wM[?Ma]:?au2 ?aKb (Be7 ta):=by ext bE;apply ?aDM ?GT;ext gW;ext a6J;show not_of (qo1 (?b1t ?ahd ?h))
abbrev tIf(t:TT)(ta tb:TE):TE:=?asi (λc H1=>if ?A7 then ta σ H1 Q else ?Rb)
def CG{c:Expr}(hc:PT X c tA)[?pP]:?au2 (.IfExp c a b ?H) (tIf tA ta tb):=by ext bE;apply wpAny_IfExp ?ac6;let ?lc:=_z;cases d with| true=>show ?ase ha Q| false=>ext a6L
universe e9
abbrev SqL[?n](H:Hp)[?cb][?c5]:Prop :=?b43 ?qf (o.cls=?e7)
abbrev SqT[?n](H:Hp)[?cb][?c5]:Prop :=?b43 ?yl ?a3m
abbrev Ci8:?eh->?fw| ?aS=>?i ?as| ?UK=>?i ?fy| ?t i _=>?i ?aX| ?f8 x _=>?i ?m7| .bytes b _=>?i ?aQg| .float b _=>?i ?a9A| ?R=>?OX| ?Z0=>?i ?Mx| _=>none
def RelV.abs{x:V}[?bc](r:?go):Ci8 u=?d7:=by cases x with| non=>cases r;rfl| bl _=>cases r;rfl| int _=>ext kX;rfl| str _=>ext kX;rfl| byt _=>ext kX;rfl| flt _=>ext kX;rfl| ref _=>cases r;rfl| ty _=>cases r;rfl
def RelV.inj{x y:V}[?bc](r:?go)(q:?xH):x=y:=qb1 (r.abs.symm.trans q.abs)
def Vals.inj:∀[?Au][?bs],?gD->?b2G ys->xs=ys| _,_,_,?aH,?aH=>rfl| _,_,_,?na,?af r' t'=>by rw[?Fq,Vals.inj t t']
section
variable{X:Cx}[?aR][?av][?Au]
def SqL.of[?E](h:?b0=?Xj):?gv:=?x ?ju
def SqT.of[?E](h:?b0=?JO):?fO:=?x ?ju
def Bo.list[?B](h:?adJ):∃its:?b4,?b1f PlainL:=by rcases h with h|⟨o,its,n,hk,hc,hd,hs,hz,r⟩;{let ?Ei:=h.ok ?bL;show#[?fq,#[_,n,e,?V,?h],z]};apply#[?ZO,r,#[o,n,?a8d,hc,hd,?aF1],?_];let e:=r.length;simp only[zb2]at e;ext d
def Bo.tuple[?B][?a70]:∃its:?b4,?b1f ?xY:=by rcases h with h|⟨o,its,n,hk,hc,_,hs,hz,r⟩;{let#[z,?fq,p]:=h.ok ?bL;show#[?fq,p.tup,z]};apply#[?ZO,r,#[o,?a8d,hc,n,?aF1],?_];let e:=r.length;simp only[zb2]at e;ext d
def Bo.list_inj[?B](h:?adJ)(h':?aGA):xs=ys:=by
 let#[?fq,#[o,n,e,_,_,d],_]:=?fZ h;let(?azY _):=?fZ h';ext aob
 ext er;show ?Fq
def Bo.tuple_inj[?B][?a70](h':SqT ?a7 H a ys):xs=ys:=by
 let#[?fq,#[o,e,_,n,d],_]:=?eE h;let#[?lD,r',#[o',e',_,n',d'],_]:=?eE h';ext aob
 ext er;show ?Fq
universe e9
meta abbrev Cx.wish(X:Cx)[?AQ]:Cx:={ X with xe:=E }
meta abbrev Cx.nox(X:Cx):Cx:=X.wish ?nT
def Cx.Ok.wish{X:Cx}(ok:X.Ok)[?AQ]:?aYl :=?aPI
def Cx.Ok.unwish{X:Cx}[?mX](ok:?aYl):X.Ok :=?aPI
section
variable{X:Cx}[?aR][?mX]
def Bo.wish[?B][?AQ]:?aTE:=#[I.ok.wish E,?a69,?rK,?bL,?vI]
def Bo.unwish(I:?aTE):?bQ:=#[I.ok.unwish,?a69,?rK,?bL,?vI]
def SP.unwish{D:Ends}{f:Flow}{s':Shared}(h:SP ?Z5 Ae D f s'):?b6w SP D f:=by cases f with| next=>ext a5n| brk=>ext a5n| cont=>ext a5n| ret u=>let#[v,σ',H',I,r,q]:=h;show#[v,σ',H',?ai7,r,q]
def SA.nox{st:?m2}{t:TS}(h:SA X.nox st t):SA X st t:=λAe s σ H D I hw =>qo2 (?ax1 D (I.wish _)) (λ_ _ q=>q.unwish) λ_ _ z=>?k5 z
universe e9
section
variable{X:Cx}{st:Stmt}{rest:?m2}{t u:TS}[?fp]{te:TE}[?bX]
abbrev Be8:TS:=λD σ H=>?dj
abbrev At(t u:TS):TS:=λD σ H=>t ?aW8 σ H
def Bg:SA X [] Be8:=λ_ _ σ H _ I h=>zb4 ?aCP
private def Ad(h1:?UY)(h2:SA X rest u):SA X (st::rest) (At t u):=by ext hY;apply ?b98 ?aW8;cases f with| next =>let(?b1r I'):=q;show h2 Ae s1 σ' H' D I' q| ret v=>show q| brk=>show q| cont=>show q
def Af(h1:?UY):SA X [st] t:=by ext hY;apply ?b98 D;cases f with| next=>show zb4 q| ret v=>show q| brk=>show q| cont=>show q
def Bo.quiet[?aR][?B]:interactive ?T=false:=by simp[interactive,I.ok.kind]
abbrev Bf1(te:TE):TS:=?auZ te (λ_ H1=>?aaz)
def Bw[?pe](hs:?atv (?b8a ?aO)):PS X (.Expr e ?H) (Bf1 te):=by ext hY;show wpAny_Expr_any (E6 ?By λv s1 ?sE=>#[σ,?aE,q1]) I.quiet hs
abbrev B33(te:TE):TS:=?auZ te D.rt
def Az[?pe]:PS X (.Return ?L1 ?H) (B33 te):=by ext hY;show wpAny_Return_some (?aw7 ?By #[x,σ,?aE,r1,q1])
abbrev ZU(c:TT)(t u:TS):TS:=?auZ c (λb H1=>if ?xq then t D σ H1 else u D σ H1)
def Bq{c:Expr}{a b:?m2}{tc:TT}(hc:?ak5)(ha:SA X a t)(hb:SA X b u):PS X (.If c a b ?H) (ZU tc t u):=by ext hY;apply wpAny_If ?ac6;let ?lc:=_z;cases d with| true=>show ?ase ha D| false=>show ?ase hb D
abbrev At8:TS:=?q4
def P1:PS X st At8:=λ_ _ _ _ _ _ h=>h.elim
universe e9
meta abbrev TG:=V->?b3k ?ax
meta abbrev ZO:=?a2->?b3k ?ax
abbrev PG(X:Cx)(target:Expr)(t:TG):Prop :=∀[?c3] (v:V) [?j8] (Q:?ax),?bQ->?hK->?b3b t v → ?asI (?rW target ?T u) ?anP
abbrev PGs(X:Cx)(ts:?dD)(t:ZO):Prop :=∀[?c3] [?ch] [?j0] (Q:?ax),?bQ->?oa->?b3b t vs → ?p ?a3 ?a4 (assignInOrder ((?CH ts ?T).map (·.2)) us) ?anP ?aQ s
meta abbrev A71:=?b7I V
abbrev Bt3(X:Cx)(t:A71):Prop :=∀[?c3] (o i v:V) (ov iv u:Value) (Q:?ar),?bQ->?c8 o ov->?c8 i iv->?hK->t o i v H Q → ?asI (?RF ov iv u) (λ_ s'=>?aSu)
section
variable{X:Cx}[?bX]
abbrev gP(i:Nat):TG:=λv σ H Q=>Q ?aS2 H
def Ab6[?me][?LD][?pK]:?aI9:=by intro Ae s σ H v u Q I r h;show ?a85 (KA I hN hi hx r (λs' I'=>#[_,H,I',h]) hf)
def Al[?me](hN:X.N.Nodup)[?ap8][?pK]:?aI9:=Ab6 hN hi hx hf
structure Bu2[?ch][?a6P]:Prop where
 mk::(left:?H5) (right:Q σ H)
abbrev Cg7:ZO:=λvs σ H Q=>?b3b Bu2 vs
inductive ZG(t:TG)(u:ZO)[?ch][?a6P]:Prop| mk:∀v r,?aB8->(t v σ H λσ' H'=>u r σ' H' Q)->?aFq
abbrev Bq1(t:TG)(u:ZO):ZO:=λvs σ H Q=>?aFq
def Ea:PGs X [] Cg7:=by intro Ae s σ H vs us Q I r h;let#[e,h]:=h;subst e;cases r;show assignInOrder_nil ?aCP
def Bk[?fp][?dR]{t:TG}{u:ZO}(h1:PG X e t)(h2:PGs X es u) (hs:?W ((?CH ?ez ?T).map (·.2)=?rW e ?T::(?U6).map (·.2)) ?aJ):PGs X ?ez (Bq1 t u):=by intro Ae s σ H vs us Q I r h;let#[v,vr,e1,h]:=h;subst e1;cases r with| cons r rr =>rw[hs];apply assignInOrder_cons (E6 (h1 Ae s σ H _ _ _ I r h) λ_ s1 _z=>?_);let#[σ1,?aE,q1]:=_z;show h2 Ae s1 σ1 H1 _ _ Q I1 rr q1
inductive As3[?n](n:Nat)(t:ZO)(v:V)[?a6P]:Prop| mk:∀a xs,?iH->?fO->?aNM->(?b3b t xs)->?ans
abbrev Bq0[?n](n:Nat)(t:ZO):TG:=λv σ H Q=>?ans
def Aw2[?dR]{k:Nat}{t:ZO}{n:Nat}[?dp](h:?a8l) [?aqD] (hst:?W (?aRk (·.1)=none) ?aJ):?b1Z ?a7:=by intro Ae s σ H v u Q I r hw;let#[a,xs,e1,hq,hl,hw]:=hw;subst e1;cases r;let#[its,rv,ht,hz]:=?oT;apply assign_Tuple_tuple ?dH ht (by simp[hn,←hl,rv.length]) hst λh' hx=>?_;let I1:?a0U:=?vQ (t':=s.toks) (?avb (hx b o ?zt e));show h Ae _ σ H xs _ Q I1 ?ag1 hw
abbrev Cg6(to ti:TE)(t:A71):TG:=λv σ H Q=>to σ H λo H1=>ti σ H1 λi H2=>t o i v H2 λH3=>Q σ H3
def Nk{o i:Expr}{to ti:TE}{t:A71}(ho:?aAp)(hi:?au2 i ti)(hs:Bt3 X t)
 (ha:?W (∀v,?rW ?Qt ?T v=(do
   let ov ←?rJ [v] ?kF
   let iv ←?rJ [v,ov] (?b4G i)
   ?Yf ?H
   ?rJ ?amM (?RF ov iv v)
   release ?amM [])) ?RX):PG X ?Qt (Cg6 to ti t):=by
 intro Ae s σ H v u Q I r h;rw[ha];apply ?q (qs3 (E6 ?DG λov s1 _z=>?_));ext gW;apply ?q (qs3 ?abA);let ?CN:=_z;apply ?q (?RS (?q (qs3 (E6 (hs Ae s2 σ H2 x y v ov iv u _ I2 r1 r2 r q2) λ_ s3 _z=>?_))));let ?aXt:=_z;show wpAny_release #[σ,?et,q3]
abbrev zV(te:TE)(g:TG):TS:=?auZ te (λx H1=>g x σ H1 ?lg)
def Ni{tg e:Expr}{te:TE}{g:TG}[?pe](hg:?aW6)(hs:?atv (swapsWithSole [tg] e ?ys ?T=?uc))(hw:?atv (swappedStores [tg] e ?T=?bo ?aO)) (h1:?W ((?CH [tg] ?T).map (·.2)=[?rW tg ?T]) ?aJ):?azn tg g:=by ext hY;apply wpAny_Assign_stores ?vk hs hw;ext gW;rw[h1];show E6 (?b90 hg _) λ_ s2 q=>q
def Av8[?me][?fp]{te:TE}{pos':Pos}[?LD][?pe][?apE][?pK] : ?aSc:=by ext hY;apply wpAny_Assign_Name ?vk hs;let(?b1t y r1):=_z;show KA I1 hN hi hx r1 (λs2 I2=>#[_,H1,I2,q1]) hf
def Am[?me][?fp]{te:TE}{pos':Pos}(hN:X.N.Nodup)[?pe][?ap8][?apE][?pK]:?aSc:=Av8 hN hi hx he hs hf
universe e9
section
variable{X:Cx}[?bX]
abbrev At6(c:TT)(tb:TS):TS:=λD σ H=>∃W:?CP,(∃m,?aX6)/\∀m σ H,?aX6 → c σ H λb H1=>if ?xq then ∃N:?ax,(?b6V (W m' σ' H'))/\tb ?aee σ H1 else ?aaz
private def Yq{c:Expr}{body:?m2}{tc:TT}{tb:TS}[?arD](hc:?ak5)(hb:?aUz):PS X (.While c ?ti [] ?H) (At6 tc tb):=by
 intro Ae s σ H D I h;have#[W,#[m0,w0],turn]:=h;apply wpAny_While (codeAny_whileLoop (λn s'=>∃σ' H',Bo X Ae σ' H' s'/\W n σ' H') ?_ m0 #[σ,H,I,w0]);rintro n s1 ⟨σ1,H1,I1,w1⟩;apply qr6 hp (E6 (hc Ae s1 σ1 H1 _ I1 (turn n σ1 H1 w1)) λb s2 _z=>?_);let#[H2,I2,q2]:=_z;cases b with
 | true =>
   have#[N,hN,q2]:=q2;rw[if_pos rfl];apply qr6 hp (E6 (hb Ae s2 σ1 H2 _ I2 q2) λf s3 q3=>?_);cases f with
   | next =>
     ext aov
   | cont =>
     ext aov
   | brk=>show q3
   | ret v=>show q3
 | false =>
   rw[?s qf5];show zb4 #[σ1,?d2,q2]
universe e9
structure It where
 go:?aCZ
 yld:Nat->Hp->?lr
 stop:?aCZ
abbrev Pl[?hf](H:Hp)(b:Addr):Prop :=?cO/\?s6/\?GV/\?a8e/\?ai0
def Bo.fpOk[?Mn]{σ:St}[?bF][?bC]{b:Addr}[?B](hb:?aSD)(hn:?HK):?aab:=by apply#[hn,qp1 (qb0 I.lt hb),I.nofs hb,?y (?m I.sz hb),λx c e z=>?_,λp hp z=>?_];{let#[v,q]:=?IV;show ?aue q.lt ?aVb};show ?aue (qd0 (?vw).1) ?aVb
structure v7[?hb][?n](tg:Expr)(J:It)[?MZ](it:Addr)(tn:?KV):Prop where
 mem:it∈fp
 obj:∀i h,tn i h->∀b∈fp,?aSd
 keep:∀i h h',tn i h->(∀b∈fp,∀o,?h5->?E8)->tn i h'
 item:∀(X:Cx),?aTb->X.w=w->?WF->?Eq->∀(i:Nat) [?c3] [?AQ],?bQ->?N9->?a4W->?Qk →
  ?p ?nV ?a4 ?a2Q (λr s1=>∃u,r=?c0 ∧
   ?p ?nV ?a4 ?aA8 (λ_ s2=>?b3O (J.yld i H) (tn ?k ?YD)) E s1) E s
 done:∀(X:Cx),?aTb->X.w=w->?WF->?Eq->∀(i:Nat) [?c3] [?AQ],?bQ->?N9->?a4W->?a2c →
  ?p ?nV ?a4 ?a2Q (λr s1=>?azZ r/\?asO H s1) E s
 self:∀(A:Around) (i:Nat) [?AA],?a4W->Q ?ew s->?asL ?nV ?aAN
meta abbrev TI:=?b3k ?HQ
abbrev PIE[?hf](σ:St)(tg:Expr)[?uB](itv:Value)(s2:Shared):Prop :=∃(it:Addr) (fp:?cC) (tn:?KV) (J:It) (H':Hp),itv=?ew/\?akG/\?acw/\tn 0 ?YD/\?aEr/\R J H'
abbrev PI(X:Cx)(tg iter:Expr)(wi:TI):Prop :=∀[?c3] [?uB],?bQ->wi σ H R → ?asI ?aiy (λv s1=>?b7o v ?aQ s1)
def mC{M:Model}[?bW][?bC][?mp]{it:Addr}[?bc]{o:Obj}{n:String}{vs:?dE}[?pU](ho:?aM9)(hc:o.cls=?Z0)(hd:o.data=?eG vs) (hn:?b3f n=false) (hQ:Q () s):?asL M ?aA8:=by unfold letOwnedTupleGo;cases tg<;>first| show ?a19| (cases u<;>first| show ?a19| (apply ?axI wpAny_load ho;rw[hc,hd];exact ?asL M (if (?b3f n&&vs[0]?==?i (?mx _))=true then _ else _);rw[?s (by intro h;rw[hn,Bool.false_and]at h;cases h)];show ?a19))
abbrev Itl[?n][?cb]:It :=(?b5O ?gv ?gv ?gv)
abbrev Itt[?n][?cb]:It :=(?b5O ?fO ?fO ?fO)
abbrev Itr(lo:Int)(n:Nat):It:=(?b7b ?z2)
def sS[?b6][?E][?mp](a it:Addr):?at4 ?mz ?aaN where
 mem:=?G
 obj:=λi h st b hb=>by
  ext AH
  ext apT
 keep:=?a8R
 item:=by
  ext cZ;ext ap4;ext ir;apply ?b8e ?aZr ?cf;ext aoO;show(?aux ?aGQ)
 done:=by
  ext cZ;ext aqQ;ext ir;let hl:=rv.length;show ?a7W ?dH st ?cf ?iK ?WY
 self:=?au0 wpAny_pyIter_listiter st
def NC[?b6][?E][?mp](a it:Addr):?at4 ?o4 ?aLy where
 mem:=?G
 obj:=λi h st b hb=>by
  ext AH
  ext apT
 keep:=?a8R
 item:=by
  ext cZ;ext aoy;ext ir;apply ?b8e wpAny_pyNext_tuple_item ?Gs;ext aoO;show(?aux ?aLh)
 done:=by
  ext cZ;ext aqJ;ext ir;let hl:=rv.length;show wpAny_pyNext_tuple_end ?dH st ?Gs ?iK ?WY
 self:=?au0 wpAny_pyIter_tupleiter st
def ND[?b6][?E][?mp](it:Addr)(lo:Int)(n:Nat):?at4 ?rL (?Gp h it (lo+?m6*1) ?aEy 1) where
 mem:=?G
 obj:=λi h st b hb=>by
  ext AH
  subst e
  show#[_,st,λv z=>by
   ext aqx]
 keep:=?ad1
 item:=by
  ext cZ;ext ir;let W:=?aws lo 1;ext ao9;apply(?atx ?z2);rw[qp9]
 done:=by
  ext cZ;ext ir;ext aoN
 self:=?al2
section
variable{X:Cx}[?mp]
inductive ZE[?n][?uB][?fk]:Prop| mk:∀a,?d4->?avX ?ZJ ?mz ?aFH
abbrev Ao8[?n](tl:TE):TI:=?auK tl ?aFH
inductive As2[?n][?uB][?fk]:Prop| mk:∀a,?d4->?avX ?Zb ?o4 ?aN3
abbrev Bl2[?n](tl:TE):TI:=?auK tl ?aN3
def Ab4{l:Expr}{tl:TE}[?Mb]:?ax5 Ao8 ?a7:=by
 ext kV;ext ar4;ext gW;let ?aKC:=q1;subst e;cases r1;let ?qX:=?HH hq;apply qv4 ?cf ?_;apply(?b8p sS);ext aqw
 subst e;ext LI
def Aw1{l:Expr}{tl:TE}[?Mb]:?ax5 Bl2 ?a7:=by
 ext kV;ext ar4;ext gW;let ?aKC:=q1;subst e;cases r1;let ?qX:=?IS hq;apply qr3 (?b2W ?Kq) ?_;apply(?b8p NC);ext aqw
 subst e;ext LI
def KW[?aR]{R:?HQ}[?mX]{lo hi:Int}{t u v:Tok}{tk:Nat}[?B](h1:-?h8<=lo)(h2:lo<?h8)(h3:-?h8<=hi)(h4:hi<?h8) (q:R (Itr lo ?Ui) H):?b7o ?bV E ?aaq:=by apply ?akX ?a2T (?aMl h1 h2 h3 h4) ?_;let I1:?asO H ?aaq:=?vQ ?pA;apply#[?Tx,[?Tx],_,_,H,?h,?st (t':=tk) ?pA,ND _ lo ?Ui,?_,?d9,q];{(let e1:?a8v=lo:=?G);(let e2:?alq=?P6 lo hi 1:=by rw[rangeSize_one];ext bB);exact ?Gp _ _ ?a8v ?alq 1;rw[e1,e2];show ?eS};(let e:b=?Tx:=?e1);subst e;ext LI
inductive zE[?pN]:Prop| mk:∀j:Int,(vs=[?oX])->?aAT->?avX (j<?h8) (Itr 0 j.toNat) ?aA7
abbrev Bl4(ta:TA):TI:=?asY ?aA7
inductive ZD[?pN]:Prop| mk:∀i j:Int,(vs=?Rn)->((-?h8<=i/\i<?h8/\?aAT/\j<?h8))->(R (Itr i (j-i).toNat) H1)->?aWL
abbrev Bl3(ta:TA):TI:=?asY ?aWL
def Bx{a:Expr}[?a5i](ha:?X6)[?L9]:?b4E [a] Bl4:=by ext kV;apply ?atu ?Xc ?a2f;ext Lo;let#[j,e,q1,q2,q]:=q1;subst e;cases r1 with| cons r rr =>cases rr;ext kX;show ?amD (KW I1 ?g ?g q1 q2 ?k1)
def g7{a b:Expr}[?a5i](ha:?aJO)[?a5H] : ?b4E ?e4 Bl3:=by ext aoL;let#[i,j,e,?Z3,q]:=q1;subst e;cases r1 with| cons r rr =>cases rr with| cons r' rr =>cases rr;ext kX;let ?wI:=r';show call_range_2 (KW I1 q1 q2 q3 q4 q)
abbrev B37(wi:TI)(g:TG)(tb:TS):TS:=?auZ wi (λJ H1=>∃W:?g6,(∃m,W 0 m σ H1)/\∀i m σ H,?gM → (?a2c/\?dj)\/(?Qk/\∃N:?ax,?fx/\∀x H',?aXg->?g8))
abbrev cF[?MZ][?cj]:Bn:=fp.filterMap λb=>(?zM).map λo=>?B6
def Rj[?j1][?d1][?uC](hb:b∈fp)(e:?h5):?B6∈cF fp h:=List.mem_filterMap.mpr #[b,hb,by rw[e];rfl]
def TU[?j1][?d1]{p:?aA3}(hp:p∈cF fp h):?v∈fp/\?iq ?v=?qW:=by let#[b,hb,e]:=List.mem_filterMap.mp hp;cases q:?zM with| none=>rw[q]at e;cases e| some o =>rw[q]at e;let e':?B6=p:=?Gr;subst e';show#[hb,q]
def Bo.pinned[?aR][?j1][?B][?pR](ho:?ajm):?azA X (Ae++cF fp ?aA) :=?akZ λp hp=>?aed (λz=>?rK p ?aWU) λz=>by have#[hb,e]:=TU z;have#[f0,f1,f2,_]:=hf ?v hb;have#[o,e',d]:=ho ?v hb;rw[e]at e';cases e';show#[e,f0,f1,f2,d]
def Bo.unpinned{Ae pl:Bn}[?fj][?bC](I:?azA X (Ae++pl)):?bQ:=?akZ λp hp=>?rK p (qi2 _ (qr5 _ hp))
def Bu{iter:Expr}{body:?m2}{wi:TI}{g:TG}{tb:TS}[?bX][?arD][?dp](hi:?al4)(hg:?aW6)(hb:?aUz) [?a5V]:PS X (.For tg iter ?ti [] ?H) (B37 wi g tb):=by ext hY;apply wpAny_For ?Rf hs;have#[?as3,W,?aAR,turn]:=h2;subst e;let NI:∀{H':Hp},?nX->?aEr:=?b2Q ((f2 b hb).2);apply codeAny_forLoop_any (λn s'=>∃i σ' H',?aPK/\?aVm/\?nX/\W i n σ' H') ?_ m0 #[0,σ,?d2,st2,?avr ((f2 b hb).1),w0];rintro n s3 ⟨i,σ3,H3,I3,st3,zM,w3⟩;rcases turn i n σ3 H3 w3 with⟨stop,qn⟩|⟨go,N,hN,step⟩;{apply ?auD T.done stop;let ?aT2:=_z;subst hr;show zb4 #[σ3,H3,I4,qn]};apply ?auD T.item go;let ?af8:=_z;subst hr;apply qr6 hp (E6 h4 ?akm);ext apC;apply qr6 hp (E6 (?ayM σ3) ?aFd);let#[σ6,H6,I6,q6]:=_z;apply qr6 hp (E6 (hb _ s6 σ6 H6 _ I6 q6) λf s7 q7=>?_);(let again:∀{σ7:St}{H7:Hp},Bo X (Ae++?aLm) σ7 H7 s7->N σ7 H7->∃m,m<n/\∃i σ' H',Bo X Ae σ' H' s7/\?aO4/\?nX/\W i m σ' H':=λ{σ7 H7} I7 n7=>by have ?aF8:=hN σ7 H7 n7;apply#[m',hm,?k,σ7,H7,?Do,?aQV,?d9,w7];have ?abz:=?acP;ext aqU);cases f with| next=>let ?aXl:=q7;show ?aJh| cont=>let ?aXl:=q7;show ?aJh| brk=>let#[σ7,H7,I7,q7]:=q7;show#[σ7,H7,?Do,q7]| ret v=>let#[x7,σ7,H7,I7,r7,q7]:=q7;show#[x7,σ7,H7,?Do,r7,q7]
universe e9
def for_list[?E][?dP][?kU][?aqf] [?aoQ] : ∃W:?g6,?b3c ?mz ?mz ?mz:=?aUr
def rF[?E][?dP][?kU][?aqg] [?aoQ] : ∃W:?g6,?b3c ?o4 ?o4 ?o4:=?aUr
def Ce{lo:Int}{n:Nat}[?kU] (hs:?atL ?M (?b5y ?z2)) [?arp] : ∃W:?g6,?b3c ?rL ?rL ?rL:=by ext a5S;rintro i m σ H ⟨rfl,hi,p⟩;cases hlt:?M;{apply ?asm hlt #[n-?k,?g,?hs];let ?Ia:=y;subst e y;show hs i σ _ hlt p};ext Lb;show ?b0l ?l ?aT4
meta abbrev R2:=V->?xO
abbrev Vr(X:Cx)(f:?aQI)(r:R2):Prop :=∀[?c3] (x y:V) (v u:Value) (Q:VK),?bQ->?lp->?b5u ?xH ?aG7 ?VZ
abbrev UnR(X:Cx)(f:?a3J)(r:?xO):Prop :=∀[?c3] (x:V) (v:Value) (Q:VK),?bQ->?b5u ?lp (r x H Q) (f v)
abbrev Fz(X:Cx)(f:Value)(r:?f4):Prop :=∀[?c3] [?c5] [?j0] (Q:VK),?bQ->?b5u ?gD ?a9a (?fB f us)
abbrev tOp(r:R2)(ta tb:TE):TE:=?asJ ta (?b44 tb (r x y H2 Q))
abbrev tUn(r:?xO)(ta:TE):TE:=?asJ ta (r x H1 Q)
inductive IrI(C:?VA)[?MT][?en]:Prop| mk:∀i j,?Hc->?aIH->(C i j)->?amp->?aWt
abbrev rI(C:?VA)[?MT]:R2:=?at0 ?aWt
inductive Bu1[?MT][?en]:Prop| mk:∀i j,?Hc->?aIH->?amp->?amN
abbrev rI0[?MT]:R2:=?at0 ?amN
inductive IrU(g:?XU)(x:V)[?dS]:Prop| mk:∀i,?Hc->(Q ?n3 H)->?aF2
abbrev rU(g:?XU):?xO:=λx H Q=>?aF2
section
variable[?ary][?bX]
def A69[?pP]{Ae:Bn}[?bC][?fj]{R:V->?lr}[?B] (h:ta σ H λx H1=>?b44 tb ?aMF) [?bb][?Ll] (hf:∀v u s2 x y H2,?asO H2 s2->?lp->?xH->?aMF->?aum ?VZ ?aQ s2) : ?asI ?a8Q (λv s₁=>?p ?a3 ?a4 ?aHQ (λu s₂=>?p ?a3 ?a4 ?VZ Q ?aQ s₂) ?aQ ?gw):=by apply ?GT;ext gW;apply E6 ?XK λu s2 _z=>?_;let ?CN:=_z;show hf v u s2 x y H2 I2 r1 r2 q2
def Bc{op:Operator}{r:R2}(ho:Vr X (?oK op) r)[?pP]:?au2 (.BinOp a op b ?H) ?Fc:=?b4o wpAny_BinOp ?agV
def P5{op:UnaryOp}{r:?xO}(ho:UnR X (unaryOp op) r)[?Ma]:?au2 (?aMi op a ?H) (tUn r ta):=?b4o ?aDM (?aw7 ?rs (?b90 ho Q))
def opI[?Ll]{C:?VA}{g:?aSU} (rule:∀[?a6y] [?AA],C i j->?a7t) : Vr X f (rI C ?aEx):=by ext gT;let#[i,j,?V,hc,q]:=h;ext pb;ext aY;show ?qy i j t t' s _ _ hc ?aJa
def Bi5[?Ll]{g:?aSU} (rule:∀[?a6y] [?AA],?a7t) : Vr X f (rI0 ?aEx):=?auF ?aJa
def Ac6[?Ll]{g:Int->?aiI} (rule:∀[?a6y] [?AA],Q (?ed ?p4) s->?a7A) : ?ate f ?p4:=?auF #[.bl ?p4,?fo,q]
abbrev Cr0(i j:Int):Prop:=0<j/\?aaA
abbrev Ai4(i j:Int):Prop:=(-?lf<i/\i<?lf)\/(-?lf<j/\j<?lf)
def Ai4.ok[?j9](h:Ai4 i j):?sZ:=by rcases h with⟨h1,h2⟩|⟨h1,h2⟩;{show .of_left ?aEO};show .of_right ?aEO
def Cg:?ax4 rI0 (λi j=>?t (i+j)):=?atC Bi5 add_int
def Gy:Vr X (?oK .Sub) (rI0 λi j=>?t (i-j)):=?atC Bi5 sub_int
def Ju:?avD ?aHX Cr0 (i / j):=?b0Z (by let h1:?cu<j:=hc.1;let h2:?aaA:=hc.2;show ?aSe ?g (?b7l qh4) (?x ?aBf))
def Dy:?avD (?oK .Mod) (λ_ j=>0<j) (i%j):=?b0Z (by let h1:?cu<j:=hc;show mod_int' ?g (?b7l Int.fmod_eq_emod_of_nonneg))
def unI{f:?a3J}{g:?cy} (rule:∀(i:Int) (t:Tok) [?AA],Q (?t ?n3 ?lP) ?qU->?aum (f ?wl) E s) : ?b3P f ?n3:=by intro Ae s σ H x v Q I rx h;let ?aOf:=h;ext pb;show ?qy i t s _ _ #[?t ?n3,?pn,q]
def Kg:?b3P (unaryOp .USub) (-i):=unI λ_ _ _ _ _ q=>neg_int q
universe e9
abbrev scal:V->V->?ft| ?as,?as=>true | ?as,?ja=>true | ?ja,?as=>true | ?as,?mH=>true | ?mH,?as=>true | ?as,?gq=>true | ?gq,?as=>true| ?ja,?ja=>true | ?mH,?mH=>true | ?gq,?gq=>true | .byt _,.byt _=>true| ?ja,?gq=>true | ?gq,?ja=>true | ?mH,?gq=>true | ?gq,?mH=>true| _,_=>false
structure Cq5[?en]:Prop where
 mk::(left:?aiL) (right:?b41 ?a2R)
abbrev rEq:R2:=?at0 (?b8y Cq5)
structure Cq4[?en]:Prop where
 mk::(left:?aiL) (right:?b41 (! ?a2R))
abbrev rNe:R2:=?at0 (?b8y Cq4)
def RK[?j9]:?b1e ?aB ?aB:=?a3O
def yJ{i j:Bool}:?b1e V.bl V.bl:=?a3O
def rK{i j:Str}:?b1e V.str V.str:=?a3O
def RL{i j:?anb}:?w (V.byt i=V.byt j)=(i.toList==j.toList):=by rw[qq7];cases i;cases j;simp
section
variable[?ary][?bX]
def Dc[?aR]{Q:VK}{k k':Bool}[?B](q:Q ?wZ H)(e:k=k'):?atl (?ed k') s:=by subst e;show#[?wZ,?fo,q]
def Ev:Vr X ?a8f rEq:=by
 intro Ae s σ H x y v u Q I rx ry h;let#[hs,q]:=h;cases x with
 | non =>
   cases rx;cases y with
   | non=>cases ry;show PySem.EqNone.eq_none_none ?bz
   | bl j=>cases ry;show PySem.EqNone.eq_none_bool ?bz
   | int j=>ext aY;show PySem.EqNone.eq_none_int ?bz
   | str j=>ext aY;show PySem.EqNone.eq_none_str ?bz
   | _=>ext is
 | bl i =>
   cases rx;cases y with
   | non=>cases ry;show PySem.EqNone.eq_bool_none ?bz
   | bl j=>cases ry;show ?b6y eq_bool yJ
   | str j=>ext aY;show PySem.EqMixed.eq_bool_str ?bz
   | _=>ext is
 | int i =>
   let#[t,rfl]:=rx;cases y with
   | non=>cases ry;show PySem.EqNone.eq_int_none ?bz
   | int j=>ext aY;show ?b6y eq_int RK
   | str j=>ext aY;show PySem.EqMixed.eq_int_str ?bz
   | _=>ext is
 | str i =>
   let#[t,rfl]:=rx;cases y with
   | non=>cases ry;show PySem.EqNone.eq_str_none ?bz
   | bl j=>cases ry;show PySem.EqMixed.eq_str_bool ?bz
   | int j=>ext aY;show PySem.EqMixed.eq_str_int ?bz
   | str j=>ext aY;show ?b6y eq_str rK
   | _=>ext is
 | byt i =>
   let#[t,rfl]:=rx;cases y with
   | byt j=>ext aY;show ?b6y PySem.W.eq_bytes RL
   | _=>ext is
 | _=>ext aqE
def Gn:?b28 rNe:=by
 intro Ae s σ H x y v u Q I rx ry h;let#[hs,q]:=h;cases x with
 | non =>
   cases rx;cases y with
   | non=>cases ry;show PySem.EqNone.ne_none_none ?bz
   | bl j=>cases ry;show PySem.EqNone.ne_none_bool ?bz
   | int j=>ext aY;show PySem.EqNone.ne_none_int ?bz
   | str j=>ext aY;show PySem.EqNone.ne_none_str ?bz
   | _=>ext is
 | bl i =>
   cases rx;cases y with
   | non=>cases ry;show PySem.EqNone.ne_bool_none ?bz
   | bl j=>cases ry;show ?avN ne_bool yJ
   | str j=>ext aY;show PySem.EqMixed.ne_bool_str ?bz
   | _=>ext is
 | int i =>
   let#[t,rfl]:=rx;cases y with
   | non=>cases ry;show PySem.EqNone.ne_int_none ?bz
   | int j=>ext aY;show ?avN ne_int RK
   | str j=>ext aY;show PySem.EqMixed.ne_int_str ?bz
   | _=>ext is
 | str i =>
   let#[t,rfl]:=rx;cases y with
   | non=>cases ry;show PySem.EqNone.ne_str_none ?bz
   | bl j=>cases ry;show PySem.EqMixed.ne_str_bool ?bz
   | int j=>ext aY;show PySem.EqMixed.ne_str_int ?bz
   | str j=>ext aY;show ?avN ne_str rK
   | _=>ext is
 | byt i =>
   let#[t,rfl]:=rx;cases y with
   | byt j=>ext aY;show ?avN PySem.W.ne_bytes RL
   | _=>ext is
 | _=>ext aqE
def P8:?ate (?h9 .Lt) (?w ?co):=?atC Ac6 lt_int
def QK:?ate (?h9 .LtE) (?w (i<=j)):=?atC Ac6 le_int
def V2:?ate (?h9 .Gt) (?w ?al):=?atC Ac6 gt_int
def Bi4:?ate (?h9 .GtE) (?w ?ea):=?atC Ac6 ge_int
def Aw7:Vr X (?h9 .Is) (?at0 (y=?as/\?b41 (?w (x=?as)))):=by ext gT;let#[?h,q]:=h;cases ry;apply ?b6y is_none_gen ?_;cases x<;>first| (cases rx;rfl)| (ext pb;rfl)
def Bf(b:Expr){op:CmpOp}(h:?b9J ?aly)(h2:?b9J ?aWh):?Yg:=by
 ext apF
 ext aoz
 cases b<;>simp[behindInMarks,e1,e2]
def Js{op:CmpOp}{r:R2}[?a6Z][?pP][?as9]:?au2 ?aZZ ?Fc:=by ext bE;show wpAny_Compare1 ?agV hm
inductive YV[?u8](x:V)(H':Hp):Prop| mk:∀k,(x=?wZ)->(?b9D k)->?anV
abbrev Be4(t:TE):TT:=?asi (λx H'=>?anV)
def Ba{op:CmpOp}{r:R2}[?a6Z][?pP][?as9]:PT X ?aZZ (Be4 ?Fc):=by ext bE;apply wpAny_isTrue_Compare1 (?aw7 ?rs (?b69 (λc s3 ?a7g=>?_))) hm;subst e;cases r3;show qo1 ?aXt
inductive SD(r':R2)(tc:TE)[?pg](y:V)(z:V)(H3:Hp):Prop| mk:∀k,(z=?wZ)->((if ?auy k then tc σ H3 λw' H4=>r' y w' H4 Q else Q ?x6 H3))->?afq
abbrev Au2(r r':R2)(ta tb tc:TE):TE:=?asJ ta (?b44 tb (r x y H2 λz H3=>?afq))
def WN{op op':CmpOp}{r r':R2}[?a6Z](ho':Vr X (?h9 op') r')[?pP](hc:?au2 c tc) (hm:lastMarks ?abx ?wY=false:=by with_unfolding_all rfl):?au2 (?aHM a ?abx ?wY ?H) (Au2 r r' ta tb tc):=by ext bE;apply Compare_chain (?aw7 ?rs (chain_link (?b69 (λd s3 ?a7g=>?_)))) hm;subst e;cases r3;apply ?Nj;cases k with| false=>show ite_ff #[?x6,?et,?h,q3]| true=>show ite_tt (chain_last (E6 (hc Ae s3 σ H3 _ I3 q3) λw' s4 #[z',H4,I4,r4,q4]=>ho' Ae s4 σ H4 y z' u w' Q I4 r2 r4 q4))
def iX:?Ur<?mM:=?afL
def Se{x:V}[?bs](r:?adV):?aWr:=by cases r with| cons r1 r2=>cases r2;show#[?aa,r1]
def bM{x y:V}[?bs](r:?ag8):∃u w',us=[u,w']/\?go/\?c8 y w':=by cases r with| cons r1 r2 =>cases r2 with| cons r3 r4=>cases r4;show#[_,?aa,r1,r3]
def HC[?dp]:?asW ?ad3 (∃i j,xs=?Rn/\?b6i (if j > i then j else i)):=by ext el;have ?aOP:=h;have ?abY:=bM r;apply max_two_ints ?dH ?aFN;cases hj:j > i;ext apD
def UU[?dp]:?asW ?aaE (∃i j,xs=?Rn/\?b6i (if ?al then j else i)):=by ext el;let ?aOP:=h;let ?abY:=bM r;apply min_two_ints ?dH ?aFN;cases hj:?al;ext apD
def uW:?asW ?aQ4 ((∃i,xs=[?aX]/\Q ?aX H)\/∃k,xs=[?wZ]/\Q ?af0 H):=by ext el;rcases h with⟨i,rfl,q⟩|⟨k,rfl,q⟩;{let#[u,?h,t,?h]:=?rx;show call_int_int #[?aX,H,I,?ik,q]};let#[u,?h,r1]:=?rx;cases r1;show call_int_bool #[?af0,?pn,q]
universe e9
structure pO[?cj](x dx C:Addr)(mA:?gu):Prop where
 obj:?iq x=?i ?a1m
 ns:?XY
 ne:?a59
private def tX[?d1]{dx:Addr}[?a6t](n:?XY):∃od,?iq dx=?ahu/\?aT7:=by have#[o,?az,ho,hd,hk,_,hm]:=n;apply#[o,ho,λname=>?_];let e:=hm ?dL;unfold nsFind findBy at e;rw[←Array.find?_toList]at e;unfold PySem.W.lookIn;rw[hd];dsimp only;split;{rename_i y q;rw[q]at e;show ?ank};rename_i q;rw[q]at e;(let a:?aEN (·.refKey)=false:=by rw[zc5];intro y hy;let#[z,t,hkey]:=hk y (Array.mem_toList_iff.mp hy);simp[DictEntry.refKey,hkey]);(let a':¬?aEN (·.refKey)=true:=by rw[a];show qf5);rw[?s a'];show ?ank
def pO.look[?d1]{x dx C:Addr}[?a6t](I:pO h x dx C mA):∃od,PySem.W.InstAt h x ?a1m C ?ahu/\?aT7 :=
 let #[od,ho,hl]:=tX I.ns
 #[od,#[I.obj,?V,ho],hl]
section
variable[?dO][?bW][?bC][?E]{x dx C f:Addr}[?a6t]{name:Str}[?pq]
def Af4{expr:Bool}[?bb][?apZ][?arx] (ha:?aB2=?z5) (hv:?a0P=?aW) (hv':?b1G ?aby v) (h:Q v ?qU) : ?asL ?ab (?XQ ?jh ?dL expr):=by let ?Yu:=I.look;show PySem.W.get_value X J (za7 hg).1 (PySem.W.findObj_own hh ha ?h (by rw[hl,hv])) hv' h
def yC[?aqr][?apZ] (hf:?aB2=?D7) (ht:?Rx) (hv:?azZ ?a0P) (h:Q (?fN,[?jh]) s) : ?asL ?ab (?TZ ?jh ?dL pl):=by let ?Yu:=I.look;show PySem.W.method_fn X J (za7 hg).1 (za7 hg).2 hf (zc1.mp ht) (by exact(?ahR).map (·.isSome)=?i ?cx;rw[hl,hv];rfl) h
def zZ{ns:?bM}[?pU](X:?x8)(I:?aDP) (hs:?auW K) (hp:?aNw) (ht:?aNV K C ?dL=?z5) [?arx] (hw:?WS mA ns) (hsz:?ab6) (h:∀h',pO h' x dx C (λy=>if y=name then ?aW else mA y)->?b2n dx->Q () { s with heap:=h',toks:=s.toks+2 }) : ?asL ?ab (setAttr ?jh ?dL v):=by have ?Yu:=I.look;apply PySem.W.set_plain X J hs (PySem.W.osa_open (s:=?qU) (r:=none) X J hp ht ?aik);have#[cd,hc,hd']:=PySem.W.any_some hh;let hx:?eC x=?i #[?dc,?i dx,.plain,#v[]]:=I.obj;apply ?b6C (?q (?q (wpAny_loadPart hx (?q (PySem.W.Looks.here (s:=?qU) (PySem.W.looks_clsIn X hc) ?_)))));rw[hd'];apply qc6 (a:=?i dx) (?b6C ?iR);apply wpAny_nsSet1 (s:=?qU) I.ns λh' hn2 hs2=>?_;have#[oD,esD,epD,hoD,hdD,hcD]:=hn2.count (PySem.Within.cons ?dL v hw);apply ?avE wpAny_lookBehind hoD (by rw[hdD];show pastItsLine_dict (?m hcD (by rw[qd5];ext d)));show qc6 (h _ #[?b1o _ (?hF I.ne) I.obj,hn2,I.ne] hs2)
def XG[?Lv][?Al][?Lw](X:?x8)(hm:?acc) (hi:?b8H ?D7) (hf:PySem.W.typeIn K ?fN=?i (?cV "function")) (h:?jl ?ab (?ay7 vs) (?Hz ?fN #[?a4A::vs,kw]) (PySem.W.InitBack ?ba R) ?aBx) : ?jl ?ab A (?Hz ?dc #[vs,kw]) R s:=by let#[hh,g,d,t,os]:=s;show PySem.W.make_core (PySem.W.makes_of X hm) (PySem.W.looks_findIn X hi) (λself=>PySem.W.bind_fn X self hf) ?cB h
universe e9
abbrev putF(f:Str)(v:V):?jQ->?jQ| []=>[(f,v)]| (g,x)::r=>if g=f then(g,v)::r else(g,x)::?aYp
def As(f g:Str)(v:V):∀fs:?jQ,(?a3k).lookup g=if g=f then ?aW else ?h3 g| []=>by exact List.lookup g [(f,v)]=_;cases h:g=f;{let hb:?auy ?agu:=zc1.mpr h;simp only[List.lookup,hb,?b3]};let hb:?awB ?agu:=?qT h;simp only[List.lookup,hb,?ad]| ?Gy=>by let ih:=As f g v r;ext a5L;{rw[?mJ];cases h:g=k;{let hb:?aHx:=zc1.mpr h;simp only[List.lookup,hb,?A (h.trans hk)]};let hb:?aYf:=?qT h;simp only[List.lookup,hb,?s (λe:g=f=>h (e.trans hk.symm))]};rw[?kG];cases h:g=k;{let hb:?aHx:=zc1.mpr h;simp only[List.lookup,hb,?s (λe:g=f=>hk (h.symm.trans e))]};let hb:?aYf:=?qT h;simp only[List.lookup,hb];show ih
def j8(f:Str)(v:V):∀fs:?jQ,f∈?aWd (·.1)/\∀g,g∈?KX (·.1)->g∈?aWd (·.1)| []=>#[?ail,λg h=>?gL]| ?Gy=>by let#[i1,i2]:=j8 f v r;ext a5L;{rw[?mJ];subst hk;show#[?G,λg h=>?lu]};rw[?kG];apply#[?_,λg h=>?_];{rw[qd7];show ?ay1 i1};rw[qd7]at h ⊢;ext a6S;{show qe4.mpr ?xc};show ?ay1 (i2 g e)
def Ck(f:Str)(v:V):∀fs:?jQ,?aVd<=?aEL| []=>?ail| ?Gy=>by let ih:=Ck f v r;ext a5L;{rw[?mJ,qd5,qd5];ext d};rw[?kG,qd5,qd5];ext d
def Qv.some_of{v:V}{o:?jS}(r:Qv ?aW o):∃u,o=?c0/\?hK:=by cases o with| none=>ext tz| some u=>show#[u,?h,r]
def Qv.none_of{o:?jS}(r:Qv ?aO o):?azZ o:=by cases o with| none=>rfl| some u=>ext tz
def uI{v:V}[?bc][?mh]:?b1G ?aby u:=by cases v with| non=>cases (?au1 ?CB);rfl| bl b=>cases (?au1 ?Ky);rfl| int i=>ext aqm;cases e;rfl| str x=>ext aqn;cases e;rfl| byt b=>let ?sN:=(?au1 ?aGf);cases e;rfl| flt b=>let ?sN:=(?au1 ?aUb);cases e;rfl| ref a=>cases (?au1 (u=?ps));rfl| ty n=>cases (?au1 (u=?Wy n));rfl
section
variable[?b6][?bF]{h h':Heap}{a C dx:Addr}{fs fs':?jQ}
def JB(hok:?Fr)(e:?b0=?s3):∃mA,pO h a dx C mA/\?Rj/\?WS mA (?KX (·.1))/\?ale/\?aCw:=by have#[d,z,ne,ob,mA,n,r,q]:=(?b72 ?IE hok);show#[mA,#[ob,n,ne],r,q,z,d]
universe e9
structure Cls[?n][?ca]:Prop where
 pg:?b0w Str.empty
 hd:?aTc
 po:?aNw
 sa:?auW K
def Cls.get[?E][?ki](c:?Q2)(f:Str):?b0w f:=c.pg
abbrev Er[?n][?ca](f:Str):Prop:=?avT f=?z5
def Er.taker[?E][?ki]{f:Str}(n:?Rv):?aNV K C f=?z5:=by unfold PySem.W.takerIn;rw[show ?avT f=?z5 from n];rfl
structure YT[?n][?ca](m:Str)(f:Addr):Prop where
 at_:?avT m=?D7
 fn:?Rx
 kp:?vi
section
variable{X:Cx}[?aR]{a C dx:Addr}[?pX]{f:Str}{v:V}[?bW]
def OU{b:Bool}[?bb][?B][?a5r](n:?a7z)(l:?alQ) (h:∀u s',?zc->?hK->Q u s'):?asL ?a3 (?XQ ?R f b):=by have ?aGi:=?a0L;let ?kL:=?B4 (v:=v) (o:=mA f) (?ayZ r f);show Af4 ?dX O (c.get f) c.hd n hu (uI ru) (h u _ ?lw ru)
def Xx{m:Str}{g:Addr}[?aqr][?B][?a5r](k:?ahl)(l:?wE) (h:Q (?Wz,?e5) s):?asL ?a3 (?TZ ?R m pl):=by have ?aGi:=?a0L;let hn:?auL mA m:=?ael (?ayZ r m);show yC ?dX O (c.get m) k.at_ k.fn hn h
def NL{y:V}[?bc][?pU][?B][?a5r](n:?a7z)(hl:?aix)[?mf] (h:∀s',?b9e ?aPu ?ED):?asL ?a3 (setAttr ?R f u):=by have#[mA,O,r,wi,_,ho]:=?a0L;(let hz:(?KX (·.1)).length<=sizeLine:=by rw[qa3,sizeLine_eq];ext d);apply zZ ?dX O c.sa c.po n.taker c.hd wi hz λh' O' sb=>h _ ?_;let hd:∃o,?jG dx=?Z:=let #[o,_,_,e',_]:=O'.ns;#[o,e'];apply ?Ij (x:=a) (e:=dx) ?xa (?y ho) (λb q hb z=>?aIn z) hd ?_;apply#[by rw[Aj O.ne];show ho,?_,O.ne,O'.obj,_,O'.ns,λg=>?_,?aDR];{let:=Ck f y fs;ext d};{exact Qv ((?aGl).lookup g) ?a9T;rw[As];cases q:g=f;{rw[?fF,?fF];show ry};rw[?dI,?dI];show r g};cases q:g=f;{rw[q];show(?aSr).1};apply(?aSr).2 g (wi g λz=>hg ?_);exact ?azZ ?a9T;rw[?dI];show z
def Bo.made[?B]:?asO (?C (?C H ?aG ?agb) ?ba ?aE4) ?aBx:=by let e1:(?s7).get? ?aG=?i ?VL:=qd3 ?aA ?h;(let e2:((?s7).push ?Fu).get? ?ba=?i ?Fu:=by let:=qd3 ?s7 (o:=?Fu) ?h;rwa [ql3]at this);let e3:(?s7).Ns ?aG ?fM:=#[?VL,#v[],_,e1,?h,(λe he=>?X he ?G),?Ex];let I1:=?ij (a:=s.heap.objs.size) (o:=?agb) (h':=?s7) (t':=s.toks) ?aRK ?l #[_,e1];apply ?PH (a:=?ba) (o:=?aE4) (t':=s.toks) ?aRK (qk4 (ql3 _ _)) ?_;let ne:?axD ?ba:=?a8i;apply#[by rw[?Bu,Ab],?a5,ne,e2,?fM,(Heap.Ns1.of_empty e3).at λo q=>?zi,λ_=>True.intro,λy hy=>?X ?h hy]
def Ah4[?dO]{env:Env}[?fp]{f:Str}[?bX][?bC][?bb](hb:?zm e f env ?Rg=?Rg) (h:?p ?ab A ?Rg (?b09 (?XQ o f ?hH) Q) E s):?asL ?ab (?b7U ?U9) :=Attribute_any_ h (by rw[arm_eval_Attribute,hb])
universe e9
inductive ItFld[?n](f:Str)(Q:VK)[?fk]:Prop| mk:∀a C dx fs v,?d4->?a26->?Q2->?Rv->?alQ->(Q v H1)->?aSA
abbrev Bf0[?n](ta:TE)(f:Str):TE:=?asJ ta ?aSA
inductive Ar1[?n](f:Str)(D:Ends)(σ:St)(y:V)(x:V)(H2:Hp):Prop| mk:∀a C dx fs,?d4->(H2 a=?s3)->?Q2->?Rv->?aix->(?lg σ (?C H2 a ?aPu))->?aaZ
abbrev Bg2[?n](ta tv:TE)(f:Str):TS:=?auZ tv (λy H1=>ta σ H1 λx H2=>?aaZ)
section
variable{X:Cx}{o e value:Expr}{f:Str}{pos pos' tpos:Pos}{ta tv:TE}
def Aw4(he:?abP)(hb:?alF):?au2 ?U9 (Bf0 ?a7 ta f):=by ext bE;apply Ah4 hb ?aLY;let(?b1s v n):=_z;ext mP;show OU I1 ea c n l λu' s2 I2 ru=>#[v,H1,I2,ru,q]
def Av9[?aru](hs:?an6):?azm ?a7:=by ext hY;apply plainObj_wpAny_Assign_Attribute (E6 ?acY λu s1 #[y,?aE,ry,q]=>E6 (ha Ae s1 σ H1 _ I1 q) λov s2 _z=>?_) hs;let#[x,?d2,?a77,ex,ea,c,n,l,q2]:=_z;subst ex;obtain rfl:ov=?ps:=rx;show NL I2 ea c n l ry λs3 I3=>#[σ,_,I3,q2]
def An2{pl:?CC}{m:Str}{apos:Pos}{args:?dD}{Ae:Bn}[?bC][?fj][?bb]{te:TE}[?pe][?B]
 (h:te σ H λx H1=>∃a C dx fs g,?d4/\?a26/\?a0q/\?ahl/\?wE ∧
   ∀s1,?asO H1 s1->?aum (?D6 ?H ?Wz ?e5 ?aB9 ?DW) ?aQ s1)
 (ht:?anQ=(do
   let ov ←?lt
   ?sV
   let ?rn ←?rH
   ?ayC ?aB9)) :
 ?asI ?anQ Q:=by
 ext a5U;let(?b1s g k):=_z;ext mP;show Xx I1 ea c k l (q s1 I1)
universe e9
section
variable{X:Cx}[?aR][?bW][?bb]{c:Value}{b:Bool}
universe e9
structure Ii(k:Nat)(A:Around):Prop where
 hd:?yW
 dp:A.depth+3*k+5<recursionLimit
 un:A.units+16*k+200<cLine
 gd:A.guards=?i []
def Ii.mono{j k:Nat}[?dT](r:?yz)(h:?w7):Ii j A:=#[r.hd,?aRM,?aKU,r.gd]
def Ii.deeper{k:Nat}[?dT](r:?akM)(env:Env):Ii k (?GK env) :=#[r.hd,by let:=r.dp;exact ?aG2+3*k+5<_;ext d,by let:=r.un;exact A.units+3+16*k+200<_;ext d,r.gd]
def OM[?dT][?ki][?bs][?Lw]:(?xn).depth=?aG2:=?anM
def LQ[?dT][?ki][?bs][?Lw]:(?xn).guards=A.guards:=?anM
def oM[?dT][?ki][?bs][?Lw]:(?xn).units=?Sk:=by first | rfl | simp[Around.under,Code.cUnits,Code.frames,Code.isFrame]
def Ii.make{k:Nat}[?dT](r:?akM)[?ca][?j0](kw:?sK):Ii k ?xn :=#[r.hd,by let:=r.dp;rw[OM];ext d,by let:=r.un;rw[oM];ext d,by rw[LQ];show r.gd]
def Ii.depth{k:Nat}[?dT](r:?yz):A.depth<recursionLimit:=?aRM
def Ii.units{k:Nat}[?dT](r:?yz):?axH 64:=?aKU
def Ii.u8{k:Nat}[?dT](h:?yz):?axH 8:=by let:=h.units;ext d
abbrev At7:TA:=?axu []
abbrev Bf4(ta:TE)(tr:TA):TA:=?asJ ta (tr σ H1 λxs H2=>Q ?r9 H2)
section
variable{X:Cx}[?fp][?dR]{te:TE}{t:TA}[?bX]
def Ac:PA X [] At7:=λ_ _ _ _ H Q I h=>za0 ?aRB
def Aa(ha:?N8)(hr:?Cy)(hs:?Jh):PA X ?ez (Bf4 te t):=by intro pos Ae s σ H Q I h;rw[hs];exact ?atE _ (spliced (?a0p::?Sj));apply qr4 (E6 ?rs ?Jw);ext gW;show E6 (?ays hr ?H _) λus s2 #[xs,?d2,r2,q2]=>#[?r9,?d2,?af r1 r2,q2]
structure Bt9(Q:VK)[?c5](H1:Hp):Prop where
 mk::(left:?kR) (right:?at6 ?a7H H1 ?yl)
abbrev Be3(t:TA):TE:=?asi (λxs H1=>Bt9 Q xs H1)
structure Bu0(Q:VK)[?c5](H1:Hp):Prop where
 mk::(left:?kR) (right:?at6 ?a7H H1 ?qf)
abbrev B36(t:TA):TE:=?asi (λxs H1=>Bu0 Q xs H1)
def Cw{x1}(h:?Cy):?au2 (?w4 es x1 ?H) (Be3 t):=?b3s wpAny_Tuple_spliced ?yl #[z,us,r,?aSM]
def E9(h:?Cy):?au2 (.List es ?H) (B36 t):=?b3s wpAny_List_spliced ?qf #[z,us,0,r,?eS]
universe e9
meta abbrev Sp:=?a2->Hp->?asf VK XK
meta abbrev ZI:=?iD->Hp->Shared->XK->?kl
structure pR[?hb][?n][?mT](A:Around)[?MQ][?gd](H:Hp):Prop where
 frames:A.frames=?i ?e0
 mod:Mod K mg ?dG
 bs:?auO (base.get? b=?Z) ?ajc
 bsz:base.objs.size<=s.heap.objs.size
 funs:?C3 ?dG ?e0
 frf:∀b∈?amF,?cO
 hok:?b1X H ?aA
 bare:?aHO
abbrev CE[?MQ][?hb](H:Hp)[?gd](Q:VK)[?j8][?hk]:Prop :=∃v H',?a06/\?Bb/\?axh ?amF [] ?kr/\?b1X H' ?kr/\?hK/\?sP
abbrev CR(CX:ZI)[?MQ][?hb](H:Hp)[?gd](Q:VK)(E:XK)(r:Result)[?hk]:Prop :=match r with| .ok (?jd u)=>?aef| .ok _=>False| .error e=>?b1b e s'
structure Bs[?hb][?n][?mT](CX:ZI)(k:Nat)(f:Addr)(fd:FuncData)(ps:?bM)(sp:Sp):Prop where
 len:?Tw
 run:∀[?a5q] (args:Args) [?j0] [?ch] (Q:VK) (E:XK),?yz->?a35->?a3E s fd ?jb ?tJ->?oa->?ID →
  ?jl ?nV A (?Hz ?fN ?jb) (CR CX ?e0 P w H s Q E) s
def pR.make[?b6][?E][?tu][?dT]{outer:?iD}[?bC]{H:Hp}(e:?a35)[?ca][?j0](kw:?sK) : ?azk ?xn:=#[by first | show e.frames | (simpa[Around.under,Code.envs,Code.isFrame,pushEnvs]using e.frames),e.mod,e.bs,e.bsz,e.funs,e.frf,e.hok,e.bare]
section
variable[?Mn][?fj]{s s':Shared}
def Bo.env0[?B]:pR ?bU X.w ?a7 ?fr ?g4 ?a4 ?m9 s H :=#[I.ok.frames,I.ok.mod,I.bs,?ahj,I.stack,I.stkFree,?bL,?fu]
def Bo.after{Q:VK}[?bc][?B](h:CE ?m9 ?bU X.w H s Q u s'):?aHt:=by let#[v,H',os,bare,un,hok,r,q]:=h;let#[hh,g,d,t,os']:=s';obtain rfl:os'=s.os:=os;show#[v,H',I.call (h':=hh) (g':=g) (d':=d) (t':=t) (ch:=[]) un hok bare (λb z=>?X z ?G),r,q]
universe e9
abbrev tCall[?Lr](t:TA):TE:=?asi (λvs H1=>sp ?nZ H1 Q E)
inductive yX[?ca](m:Str)[?Lr](t:TA)[?pg][?fk]:Prop| mk:∀a dx fs,?d4->?a26->?wE->(t σ H1 λvs H2=>sp (x::?nZ) H2 Q E)->?aOC
abbrev PZ[?ca](m:Str)[?Lr](ta:TE)(t:TA):TE:=?asJ ta ?aOC
abbrev Ak2[?ca][?Lr](t:TA):TE:=?asi (λvs H1=>∀x dx,H1 x=none->H1 dx=none->?a59 → ?b5b (?C H1 dx ?KQ))
abbrev Qy[?n](fd:FuncData)(ps:?bM)(ds:?b4):Prop :=∀[?gd] [?j0],?x8->?a7P->?a3E s fd ?Bw (ps.zip ?vP)
def Qy.all[?E][?a6a](h:∀us:?b4,?b0O fd):?Qi:=λs us _ hl=>by rw[qt6]at hl ⊢;show .of_eq (h us hl)
abbrev X6(CX:ZI)(X:Cx)(E:XK):Prop:=∀(Ae:Bn) (σ:St) (H:Hp) [?gd] (e:Value) [?hk],?bQ->CX ?m9 H s E e s'->?aQ e s'
section
variable[?as1][?a6a]{sp:Sp}{dvs:?a2}{ds:?b4}{E:XK}{x m:Str}{p pos apos:Pos}{e o:Expr}[?dR]{ta:TE}{t:TA}
def iJ[?aR]{Q:VK}[?bs][?aV][?tq][?kZ][?AD] [?B] [?Md] (h:sp ?nZ H Q E):?asI (?fB ?fN us) ?g9:=by let r2:?bq ?nZ ?vP:=?aTI;(let hl:?a7P:=by rw[←r2.length];show ?ayG F.len h);apply ?acb (?JW (F.run ?a4 ?m9 s H ?Bw ?vP ?nZ Q E hr I.env0 (hb s us ?dX hl) r2 h) ?aSZ);cases r with| error e=>show hx Ae σ H s e s' I hq| ok fl =>cases fl with| ret u=>show I.after hq| next=>show ?Oo| brk=>show ?Oo| cont=>show ?Oo
def Ac1[?tq][?kZ](hg:?s2)(hm:?I3=?OC)(hk:?ayI ?Xt ?a7 ?fN)[?AD] [?hc] [?tk] (hpl:?W (?k9 (·.1)=false) ?aJ) : ?au2 ?w9 (tCall sp dvs E t):=by ext bE;apply qy3 ?Wo;apply ?ax0 hk;show iJ F hr hb hd hx I1 r q
def Ab7[?LO](hm:?aUk)[?tq][?kZ][?AD][?hc]
 [?a5O] (hpl:?W (?k9 (·.1)=false) ?aJ)
 (ht:?W (?aUI=(do
   let ov ←?kF
   ?sV
   let ?rn ←?rH
   ?RT)) ?aJ) :
 ?au2 ?a2G (?b5e dvs E t):=by
 ext bE;ext a5U;let ?aNG:=_z;ext mP;apply ?adE;apply qw4 (first:=?e5) (h₀:=X.base) ?Dm hm.kp (E6 (ha ?H Ae s1 σ H1 _ I1 q) λus s2 #[vs,?d2,r,q2]=>#[I2.kIn,?_]) hst hpl;show iJ (us:=?R::us) (vs:=?R::vs) F hr hb hd hx I2 (?af ?h r) q2
def WM[?LO](hm:?aUk)[?tq][?kZ][?AD]
 (ht:?W (?ama=(do
   let ov ←?kF
   ?sV
   let ?rn ←?rH
   ?aBZ)) ?aJ) :
 ?au2 ?Z4 (?b5e dvs E At7):=by
 ext bE;ext a5U;let ?aNG:=_z;ext mP;apply ?adE;show PySem.W.callWith_K0 (first:=?e5) I1.kIn hm.kp (iJ (us:=?e5) (vs:=?e5) F hr hb hd hx I1 ?aP3 q)
structure Mk[?n](C f:Addr):Prop where
 makes:?acc
 init:?b8H ?D7
 fn:?Rx
 kp:?ayI ?Xt K ?dc
def WG[?aR]{Q:VK}[?bs][?aV](M:?aXZ)[?tq](hr:?ajj)(hb:?aKM)(hd:?aW5) (hx:?aeZ) [?B] [?Md] (h:∀x dx,?auL H x->?auL H dx->?a59->?b5b (?auf dx ?KQ)) : ?asI (?fB ?dc us) ?g9:=by let hq:=h ?ba ?aG (?ob ?sB) ?kS ?a8i;let I2:=Bo.made (C:=C) I;let r2:?bq (?kQ ?ba::?nZ) ?aU0:=?af ?h ?aTI;(let hl:(?Ny++ds).length=ps.length:=by let e:=r2.length;rw[?ayG F.len hq]at e;show e.symm);apply ?acb (XG (f:=f) ?dX M.makes M.init (zc1.mp M.fn) (?JW (F.run _ ?m9 _ _ #[?Ny,[]] ?aU0 _ _ E (hr.make C us []) (I2.env0.make C us []) (hb _ ?Ny I2.kIn hl) r2 hq) λr s' hq'=>?_));cases r with| error e=>show hx Ae σ _ _ e s' I2 hq'| ok fl =>cases fl with| ret u =>let#[v,H',I3,rv,ev,q3]:=I2.after hq';subst ev;show#[rv,#[?kQ ?ba,H',I3,?h,q3]]| next=>show ?UW| brk=>show ?UW| cont=>show ?UW
def Ab8(M:?aXZ)[?tq](hr:?ajj)[?a5x][?AD] [?hc] [?tk] (hpl:?W (?k9 (·.1)=false) ?aJ) : ?au2 ?w9 (Ak2 C sp dvs E t):=by ext bE;apply qy3 ?Wo;apply ?ax0 M.kp;show WG M F hr hb hd hx I1 r q
universe e9
section
variable[?as1]{fd:FuncData}{ps ks:?bM}{sp:Sp}{E:XK}{x m:Str}{p pos apos kpos:Pos}{e o:Expr}[?dR]{kws:?Nx}{te ta:TE}{t tk:TA}{nm:?fW Str}
variable{g:?b4->?b4->?b4}{gV:?a2->?a2->?a2}
universe e9
structure FnScope(N P:?bM)(sc:Scope):Prop where
 kind:?C8
 co:?aRp
 gen:?aTP
 nd:N.Nodup
 pre:N.take P.length=P
 par:?aDN
 nofree:?aif
def HG[?LS]:?avY ?vz| [],_,_=>rfl| ?am9,m,h=>by unfold bindL;rw[HG ?aJI];split;{(let:x≠n:=?aJS);simp[this]};rfl
def Bj{N P:?bM}{sc:Scope}(h1:?W ?C8 ?BK)(h2:?W ?aRp ?BK)(h3:?W ?aTP ?BK)(h4:?W (N.Nodup) ?a0e)(h5:?W (N.take P.length=P) ?BK) (h6:?W ?aDN ?a0e) (h7:?W ?aif ?a0e):?a3H N P sc:=#[?Q,?eM,h5,h6,h7]
def HJ[?LS]:?avY ?z0| [],_,_=>rfl| ?am9,m,h=>by unfold bindC;rw[HJ ?aJI];split;{rfl};(let:x≠n:=?aJS);simp[this]
def HH[?LS][?pq]:?au3 (?i2 x=?kM) ?vz| [],_,_,_,_,h,_,_=>?gL| ?bH,[],_,_,_,_,h,_=>?gL| p::P,?GS,0,m,nd,h1,h2,hk=>by simp at h1 h2;subst h1;subst h2;exact ?azN ?vz p;unfold bindL;rw[HG ?a9s,?mJ];simp| p::P,?GS,?k,m,nd,h1,h2,hk=>by exact ?azN ?vz x;unfold bindL;show ?ayH HH
def HK[?LS][?pq]:?au3 (?i2 x≠?kM) ?z0| [],_,_,_,_,h,_,_=>?gL| ?bH,[],_,_,_,_,h,_=>?gL| p::P,?GS,0,m,nd,h1,h2,hk=>by simp at h1 h2;subst h1;subst h2;exact ?azN ?z0 p;unfold bindC;rw[HJ ?a9s,?kG];simp| p::P,?GS,?k,m,nd,h1,h2,hk=>by exact ?azN ?z0 x;unfold bindC;show ?ayH HK
abbrev start(N:?bM)[?ch]:St:=?PQ ?i++?bh (N.length-vs.length) ?aO
abbrev PC(CX:ZI)[?hb][?n][?mT](N:?bM)(qual:Str)(scope:Scope)(f:Addr)(cd:Value)(A:Around)[?MQ][?gd](H:Hp)(E:XK):Cx where
 prog:=P
 w:=w
 K:=K
 mg:=mg
 base:=base
 A:=?aag
 N:=N
 s₀:=s
 H₀:=H
 env:=?y8
 outer:=outer
 stack:=?y8::outer
 ex:=[]
 calm:=true
 fn:=λ_=>true
 pn:=[]
 xe:=λe s'=>?p ?nV ?aag (leaving ?y8 e) (λ_ s''=>?b1b e s'') (λe' s''=>?b1b e' s'') s'
def mL{sc:Scope}{n:Nat}{x:Str}(h:?U8):∃c,(?aQk n ?sq []).lookup x=?e3:=by let q:=?aLL ?sq n [] ?ju;show Option.isSome_iff_exists.mp q
def uB{CX:ZI}[?b6][?E][?tu]{N ps:?bM}[?arP][?dT]{outer:?iD}{s s1:Shared}{H:Hp}{E:XK}[?bs][?aV] (S:?alo) (hd:?yW) (e0:?a35) (hl:?En) [?Md] (x:InCallC s ?aG (?vz ?aZD ?tJ ?fM) ?aYP (?z0 ?aZD ?tJ ?fM) s1) : Bo ?aNS [] ?JZ H s1:=by (let hpl:?b88 N.length:=by let:=?cv ?aai S.pre;rw[qc3]at this;ext d);let#[h1,tk,?h,hk]:=x.done;let noA:∀b:Addr,b ∉ (?aNS).ex:=λb z=>?ano;apply#[#[e0.mod,S.kind,?V,?l,λy z c h1 h2=>?_,λy hy=>?_,λy c _ h=>?_,λ_=>hd,Around.frames_deeper e0.frames,?y ?IL,?ac8,e0.bs,e0.bsz,λb _ _=>noA b,?ac8,e0.funs,e0.frf],?h,e0.bare,?a2q hk,#[_,x.toInCall.ns,λi y v h1 h2 h3=>?_],λy c h=>#[_,x.cell y c h],?aeC ?l,λy c h=>?_,?awc (?X (show p∈([]:Bn) from hp) ?G),e0.hok.kept hk,?_];{show name_of_addr x.apart (qs4 h1) (qs4 h2)};{let hy:?xZ y=?eP\/?xZ y=?iW:=hy;rcases hy with hy | hy;{show mL hy};show ?X ?h (S.nofree _ (qs4 hy))};{show ?aYG};{(let hi:?RN:=by unfold start at h2;ext M4;{show hi};rw[qc4 ?aVY]at h2;rw[qp6]at h2;split at h2<;>cases h2);(let ha:?hD:=by unfold start at h2;rw[qc5 ?aVY,qa6]at h2;cases e:?Dq with| none=>rw[e]at h2;cases h2| some a=>rw[e]at h2;cases h2;rfl);let#[u,hu,rv]:=?pB ha;(let hp:?Cv=?hG:=by rw[←S.pre,List.getElem?_take_of_lt ?g];show h1);(let ndP:ps.Nodup:=by rw[←S.pre];show S.nd.sublist (?abk _ _));apply#[u,rv,?_];rcases S.par y (qa9 hp) with k | k;{show ?x #[k,HH ndP hp hu k]};let#[c,e]:=mL (n:=?ba) k;apply ?y #[?nH,c,e,?_];let q:=x.cell y c e;rw[HK ndP hp hu (by exact ?xZ y≠_;rw[k];decide)]at q;show q};{show ?aeC ?aYG};unfold start;exact _=N.length;rw[qb6,qa3,qj4];ext d
private def Bq5{CX:ZI}[?b6][?E][?tu]{k:Nat}{f:Addr}{name qual:Str}{params:Arguments}{body:?m2}{scope:Scope}{dV kV doc pm Dr ct oc:Value}{an od:OAddr} {osl:W1}{N ps:?bM}{sp:Sp} (lk:?avF ?ahB) (hcd:?Wg) (S:?alo) [?aqp] (hbody:∀[?a5q] [?ch] (Q:VK) (E:XK),?ave ?sj (SA ?a3r ?ti t)) : ?aw8 CX ?F ?ahB:=by apply#[len,λA outer s H args us vs Q E hr e0 hb r lX=>?_];let hl:=?ayG len lX;let KX:?x8:=e0.mod.kin.keeps ?aaL;let lim:s.heap.NoLimit:=e0.mod.nolimit.keeps ?aaL;(let hkind:∀y∈?tJ,?xZ y.1=?kM\/(?xZ y.1=?eP/\((?aYP).lookup y.1).isSome=true):=λ#[n,v] hy=>by rcases S.par n (qv5 hy).1 with q | q;{show ?CD};show ?y #[q,?b8R ?aLL ?CD]);apply codeAny_call_function hr.depth (KX _ _ lk) ?h S.co S.gen ?h (PySem.W.codeRec_of KX hcd) (?ayG hb ?_);apply wpAny_newFunctionEnv_cells S.kind hkind λenv he s1 x=>?_;subst he;apply#[lim.keeps x.toInCall.keep,codeAny_func ?_];let#[t,ht,hq]:=hbody A ?e0 s H vs Q E (hr.deeper _) lX;let I:Bo ?a3r [] ?JZ H s1:=uB S hr.hd e0 hl r x;apply qo2 (ht [] s1 ?JZ H _ I hq) (λfl s' hs=>?_) λe s' hs=>hs;let fin:∀{σ':St}{H':Hp}{v:V}[?bc],Bo ?a3r [] σ' H' s'->?hK->?sP->?aef :=λ{σ' H' v u} J rv q=>#[v,H',J.os,J.bare,J.base,J.hok,rv,q];cases fl with| ret u =>let#[v,σ',H',J,rv,q]:=hs;show fin J rv q| next =>let(?b1r J):=hs;show fin (v:=V.non) (u:=Value.none) J ?h q| brk =>let ?OU:=hs;show ?k5 q| cont =>let ?OU:=hs;show ?k5 q
section
variable{X:Cx}{x:Str}{p pos:Pos}[?fp][?dR]{t:TA}{id T:String}{r:?f4}
abbrev tCB(r:?f4)(t:TA):TE:=?asi (λvs H1=>r vs H1 Q)
def Av(hc:Fz X ?Go r)(hm:?a29)(hv:?BE=?ab9)[?hc][?arh][?LL][?tk] (hpl:?W (?k9 (·.1)=false) ?aJ):?aSF:=?au4 PyProof.Rows.callWith_builtin1
def Cp(hc:Fz X ?a2N r)(hg:?s2)(hm:?a29)(hv:?BE=?i ?a2N)[?hc][?LL][?tk] (hpl:?W (?k9 (·.1)=false) ?aJ):?aSF:=?au4 qh1
universe e9
universe L2
namespace HT
open PySem PyProof.Rows
section
open PySem.SeqAt
open PySem.AutoSeq1 (wpAny_loadPart')
open PySem.MeetsSeq PySem.MeetsSeq2 PySem.MeetsSeq3
universe e9
section
variable[?dO][?bW][?bC]
def cat_tup{t b:Addr}{vs ws:?b4}[?bb](ht:?xY ?aA t ?pt)(hb:?xY ?aA b ?UN)(hv:vs≠[]) (h1:ws=[]->Q ?dn s) (h2:ws≠[]->?b0K ({ cls:=?cU,data:=?bI ?aUZ })) (hsz:?asp (vs.length+ws.length)):?asL ?ab (?oK .Add ?dn ?bT):=by have ?a8I:=id ht;have ?aTK:=id hb;ext aqc;(let e:vs.toArray++ws.toArray=?aUZ:=?G);cases hw:ws=[];{show ?auR (tuple_addW1 t b ?pt ?UN n n2 dd dd2 sl sl2 ?ra (by simp[hw])) #[ho,ho2,h1 hw]};apply ?auR (tuple_addW2 t b ?pt ?UN n n2 dd dd2 sl sl2 ?ra (by simpa using hw) (by rw[qd4,qd4];show hsz)) ?aJi;rw[e];show h2 hw
abbrev sIx(n d:Nat):?fA->Nat| none=>d| ?aW=>?S2
def sIx_none(n d:Nat):sIx n d ?aO=d:=rfl
def sIx_nat(n d k:Nat):sIx n d ?Qx=min k n:=by exact(if ?aL<0 then(?aL+?aw).toNat else min (k:Int).toNat n)=min k n;rw[?z,qb8]
def Au8(n d:Nat)(hd:d<=n)(o:?fA):sIx n d o<=n:=by cases o with| none=>show hd| some v =>exact ?S2<=n;cases hv:v<0;{rw[?A hv];ext d};rw[?s hv];show ?nF
def rQ(v:Int)(n d:Nat):?aP4=((sIx n d ?aW:Nat):Int):=by exact ?b8O ?aP4 ?S2;cases hv:v<0;{simp only[?A hv];ext d};simp only[?s hv];first | show zn2 hv | ext d
def pL[?uA](n:Nat):?aYY=(?DU,?aDQ):=by let h1:¬(?c7<0):=?g;unfold Builtin.Slice.sliceAdjust;simp only[h1,if_false];apply Prod.ext ?_ ?_;{cases lo with| none=>rfl| some v=>show rQ v n 0};cases hi with| none=>rfl| some v=>show rQ v n n
def nX[?dU]:?Sq ?cl ?gP 1=j-i:=by unfold Builtin.Slice.slicePlaces;let h1:?c7 > 0:=?g;simp only[h1,if_true,Int.ediv_one];ext bB
def BW[?pq]{o:?fA}{Q:?fA->?i5}(p:?G0 v o)(h:Q o s):?asL ?ab (Builtin.Slice.slicePartIndex v):=by cases p with| none=>show ?aW1 h| int i t=>show slicePart_int h
def a8{sl:Addr}[?as0]{n:Nat}{Q:Int × Int × Nat->?i5}[?apf] (h:Q (?DU,1,?a7L-?aEn) s):?asL ?ab (Builtin.Slice.sliceApplied ?EC (?bo ?aw)):=by let ?aXV:=id hs;unfold Builtin.Slice.sliceApplied Builtin.Slice.sliceFields;apply ?q (?q (qk0 hos hds (x:=vl) ?h (?q (qk0 hos hds (x:=vu) ?h (?q (qk0 hos hds (x:=?aS) ?h ?ey))))));apply ?awo ?aW1;exact ?atE _ (if (?c7==0)=true then _ else _);rw[?yL];apply ?q (BW pl (?q (BW pu ?Sn)));exact ?atE _ (match ?aYY with | (lo,hi)=>?bo (lo,?c7,?Sq lo hi 1));rw[pL lo hi n];exact ?atE _ (?bo (?DU,?c7,?Sq ?DU ?aDQ 1));rw[nX];show ?vy
def wL(xs:?dE)(i k:Nat):((?dz k).filterMap ?aMx).toArray=((xs.toList.drop i).take k).toArray:=by (let e:?aMx=?aki:=by funext m;let:?aDA=i+m:=?g;rw[this]);rw[e];let:=pick_run xs i k;rw[List.filterMap_map]at this;let e2:((λx=>?b3E x) ∘ λx=>i+x)=?aki:=rfl;rw[e2]at this;rw[this]
def getItem_tuple_cut{t sl:Addr}[?ME][?as0][?bb](ht:?xY ?aA t ?lh)[?apf] (hw:¬(?wx=0/\?b31 ?T6)) (h:?b0K ({ cls:=?cU,data:=?aK0 })) (hsz:?asp items.size):?asL ?ab (?py ?dn ?EC):=by (let qZ:sizeOk ?aK0:=by exact ?asp ((?b5N ?IB).toArray.size);rw[qd4,qc3,qi7,zb2];show ?ayg ?nF ?lk hsz);let hj:?T6<=items.size:=Au8 _ _ ?l hi;let ?aXV:=id hs;let hTs:?nx ?EC "slice":=#[os,hos,hcs];unfold getItem;(try with_reducible apply ?GI);(first | apply ?Sn | skip);apply ?avE wpAny_sequenceKey ?Hx ?L;apply ?q (?qL (name:=?adF ?aQf) ?Hx zc2 (qo7 zc2 ?Hx entry_tuple_getitem ?_ (args_tuple_getitem _ _)));exact ?asN (Builtin.Tuple.tupleItemsOf ?dn) s;apply ?axI tupleItemsOf_ ht;apply ?axI ?a3G hTs;rw[?K6];apply ?q (a8 hs pl pu ?_);(let hno:¬?aEU:=by intro q;rw[qc2,qc2]at q;let q1:?aay=0:=?abW q.1.1;let q2:?b31 ?IB:=?abW q.2;show hw #[?g,?g]);exact ?atE _ (if ?aEU then _ else _);rw[?s hno,wL];first| show ?aWJ| show ?atJ (?q ?aS6)| show ?q (?atJ ?aS6)| show ?q ?aWJ
universe e9
universe HT
namespace L2
open PySem PySem.Spec PyProof.Rows
meta abbrev TO:=?b3k ?Oi
abbrev PO(X:Cx)(e:?a1z)(t:TO):Prop :=∀[?c3] (Q:?Oi),?bQ->?n4 → ?asI (evalPart e ?T) (λu s'=>∃o H',?qd/\?G0 u o/\?b9D o)
abbrev zU:TO:=?axu ?aO
inductive yW(Q:?Oi)[?fk]:Prop| mk:∀i,?Hc->(Q ?vA H1)->?ai5
abbrev Be5(t:TE):TO:=?asJ t ?ai5
section
variable{X:Cx}[?fp]{te:TE}{lo hi:?a1z}{tl th:TO}{pos p2:Pos}
def Fm:PO X ?aO zU:=by ext bE;rw[evalPart_none];show qc6 #[?aO,H,I,?aS,h]
def C9(h:?N8):PO X ?L1 (Be5 te):=by intro Ae s σ H Q I hw;rw[evalPart_some];apply E6 ?aJe ?Jw;ext gW;let ?aOf:=q1;let ?dv:=r1;show#[?vA,?aE,?wl,q]
abbrev SlR(X:Cx)[?arK]:Prop :=∀[?c3] (x:V) (v vl vu:Value) [?uA] (sl:Addr) (Q:VK),?bQ->?lp->?aOg->?age->?aij->r x lo hi H Q → ∃T id,?agy/\?nx v T/\?asI (?py v ?EC) ?g9
abbrev tSl[?arK](te:TE)(tl th:TO):TE:=?asJ te (tl σ H1 λl H2=>th σ H2 λu H3=>r x l u H3 Q)
def C5{r:?xi}(hr:SlR X r)[?pe](hl:PO X lo tl)(hu:PO X hi th):?au2 (?rZ e ?adO ?H) (tSl r te tl th):=by ext bE;apply ?Oc ?vk;ext gW;apply wpAny_Slice (?b76 hl (λvl s2 #[l,?d2,pl,q2]=>E6 (?av0 hu) λvu s3 _z=>?_));let#[u,?et,pu,q3]:=_z;rw[evalPart_none];apply ?ey;let I4:?asO H3 ?Oz:=I3.kept (t':=s3.toks) ?D4;let#[T,id,hT,ht,hg]:=hr Ae ?Oz σ H3 x v vl vu l u ?aRf Q I4 r1 (Heap.IsSliceOf.new ..) pl pu q3;exact ?p ?a3 ?a4 (?alG e ?adO v ?aUQ) ?g9 ?aQ ?Oz;show tail_any (ops:=[?aUQ,v]) ht hT hg (by with_unfolding_all rfl)
abbrev Co[?c5][?uA]:?a2:=?azI ?HN
def AK[?c5][?uA]:?asa ?CG xs.length:=by unfold Co;rw[qc3,qi7];show ?aWI
inductive Ar2[?n][?a61][?dS]:Prop| mk:∀a xs,?d4->?fO->?b4n ?aaC ?aFh ?alY
abbrev B48[?n]:?xi:=?ayz ?alY
def Au6:?b1Y B48:=by
 ext a5c;let ?aEc:=h;cases rx;let ?ahH:=?eE hx;let hlen:?avV its.toArray.size:=by rw[qd4];show r.length.symm
 apply#[?iP,_,zc2.lookup,?Hx,?_];apply HT.getItem_tuple_cut ht hs pl pu (by rw[hlen];show hw) ?_ (by rw[hlen];show hz);rw[hlen];apply(?atf ?aFh ?DP);show#[?aYJ,_,?azI ?FQ,?a0E]
inductive zC[?n][?en]:Prop| mk:?b8q ((xs≠[])->?aIN->((ys=[]->Q ?R H))->((ys≠[]->?at6 ?bZ H ?adQ))->?aVL)
abbrev Bh6[?n]:R2:=?at0 ?aVL
def Vals.nil_iff[?hm][?bs](r:?gD):us=[]↔xs=[]:=by cases r with| nil=>simp| cons _ _=>simp
def Ac5:?ax4 Bh6 ?a7:=by ext gT;let(?b2y q1 q2):=h;cases rx;cases ry;let ?Ya:=?eE ha;let ?Ps:=?eE hb;apply HT.cat_tup p1 p2 (?b2P hx r1.nil_iff.mp) (λz=>#[?R,?fo,q1 (r2.nil_iff.mp z)]) ?f3 (by rw[←r1.length,←r2.length];show hz);apply(?atf ?adQ (q2 (λw=>z (r2.nil_iff.mpr w)) _ ?kS));show#[?aTW,_,?aKF,?a0E]
universe e9
abbrev ixN(n:Nat)(i:Int):?SU:=if ?k3 then(if ?M then ?i ?XC else none) else if ?Wm then ?i ?aEv else none
abbrev Vo[?dV](xs:?d6)(i:Int):?fW α:=(?aAq).bind λj=>?FO
def qX{n:Nat}{i:Int}{j:Nat}(h:ixN n i=?gk):?aDd i n=?gk/\?aU/\?Wm/\?M:=by unfold ixN at h;cases h0:?k3;{rw[?A h0]at h;cases h1:?M;{rw[?im]at h;let e:?aDD:=?B9;show#[by rw[?Pf h0 h1,e],?es,h1]};rw[?f2]at h;cases h};rw[?s h0]at h;cases h1:?Wm;{rw[?im]at h;let e:?aEv=j:=?B9;show#[by rw[?OS ?g h1,e],?g,h1,?g]};rw[?f2]at h;cases h
def RV[?dV]{xs:?d6}{i:Int}{v:α}(h:?Ru):∃j,?amP=?gk/\?FO=?aW/\?OQ/\-?gA<=i/\?lC:=by unfold Vo at h;cases e:?aAq with| none=>rw[e]at h;cases h| some j =>rw[e]at h;let ?Vu:=qX e;show#[j,h1,h,?mj]
def Bh[?dV]{xs:?d6}{j:Nat}{v:α}(h:?FO=?aW):Vo xs ?gP=?aW:=by let hj:?OQ:=?aHz;(let e:ixN ?be ?gP=?gk:=by unfold ixN;rw[?bD,?bD];simp);unfold Vo;rw[e];show h
abbrev RZ(b:Expr):Prop:=∀o i,?H9 b ?cx o i=?Rt [o,i] ?aJk
abbrev IxR(X:Cx)(r:R2):Prop :=∀(value slice:Expr) [?c3] (x y:V) (v u:Value) (Q:VK),?bQ->?lp->?xH->?aG7 → ?H9 ?qN ?cx v u=?Rt [v,u] (?py v u)->?asI (?alG ?kE ?qN v u) ?g9
abbrev MtR(X:Cx)(id:String)[?Lj]:Prop :=?afK
section
variable{X:Cx}{a b:Expr}{ta tb:TE}[?bX]
def Ax{r:R2}(hr:IxR X r)[?pP](hs:RZ b):?au2 (?rZ a b ?H) ?Fc:=?b4o ?Oc (?awP (hr a b Ae s2 σ H2 x y v u Q I2 rx ry q (hs _ _)))
inductive Ar8[?n][?en]:Prop| mk:?b5B ?ae4 ?aD9
abbrev Bh4[?n]:R2:=?at0 ?aD9
inductive Ar7[?n][?en]:Prop| mk:?b5B (?aw6 H p xs) ?aEl
abbrev Av5[?n]:R2:=?at0 ?aEl
def Ae7:IxR X (Bh4 ?a7):=by ext aqK;have ?aBt:=h;cases rx;have ?dv:=ry;have ?aX8:=?gI;have ?akC:=RV he;have ?agq:=?pB h2;ext apL;cases h0:?k3;{(let hj:?aDD:=?aya h5);show item_listR ?q0 h0 ?g ?aBe fin hs};(let hj:(i+?aEb).toNat=j:=?ax2 h4);show ?aiW (x:=w) ?aTn ?aGs (wpAny_getItem_list_neg (Q:=?aZy) ?q0 ?g ?alT ?g ?aBe ?aj5) hs
def A24:IxR X (Av5 ?a7):=by ext aqK;let ?aBt:=h;cases rx;ext iz;let ?aX8:=?oT;let ?akC:=RV he;let ?agq:=?pB h2;ext apL;show ?aiW (x:=w) pl.typeIs slot_tuple_getitem.lookup (getItem_tuple (j:=j) (Q:=?aZy) pl ?g ?g (by ext ph;show h1) (by simpa using ew) ?aj5) hs
def OL[?MP](n j:Nat)[?j8]:?Tm (·.setIfInBounds j u) ?a4B={ cls:=?e7,data:=?bI (its.set j u).toArray n }:=by simp[Obj.mapSeq]
def Bo.lst[?aR]{p:Addr}[?hm][?B](h:?a2z) : ∃(its:?b4) (n:Nat),?s1/\?aGz/\?kR:=by let ?Ei:=?bL p _ h;show#[?kj,e,z]
def Bo.lstUpd[?aR]{p:Addr}[?Au]{its its':?b4}{n n':Nat}{f:Obj->Obj}[?B](h:?a2z) (ho:?aGz) (hf:f ?a4B=?a7o) (r:?ajz) [?a6j] (t:Nat) : ?asO (?C H p ?wj) ({ s with heap:=?GP p f,toks:=t }):=by (let e:(?GP p f).get? p=?i ?a7o:=by rw[?aHh f ho (by rw[hf]<;>rfl),hf]);apply ?Ij (x:=p) (e:=p) (by rw[h];trivial) ?cB (λb u hb q=>(?aTo _ _ ?aRD).trans q) ?a2F ?_;show#[hz,?lD,n',r,e]
inductive zA(o:V)(i:V)(v:V)(H:Hp)(Q:?ar):Prop| mk:∀p xs k j,(o=?aK)->(i=?f5)->?a2z->(ixN ?be k=?gk)->(Q ?aNB)->?aKG
abbrev Bh1:?b7I V:=λo i v H Q=>?aKG
def Gw:Bt3 X Bh1:=by intro Ae s σ H o i v ov iv u Q I ro ri rv h;let#[p,xs,k,j,?V,hp,hj,q]:=h;cases ro;let ?dv:=ri;let#[?kj,ho,hz]:=I.lst hp;let ?Vu:=qX hj;let hl:=r.length;let hn:=iX;let I':Bo X Ae σ ?aNB { s with heap:=?GP p (?Tm (·.setIfInBounds j u)) } :=I.lstUpd hp ho (OL its n j u) (r.set rv j) (by rw[ql6];show hz) ?lP;cases h0:?jO;{(let hk:k.toNat=j:=?aya h4);show PySem.W.ki_setAt ho h0 ?g (by ext ph;show h4) ?ahz};(let hk:(k+?aEb).toNat=j:=?ax2 h3);show PySem.W.ki_setBack ho ?g (by ext ph;show h3) ?g ?ahz
def iE[?uA](n:Nat):(?a2W).1=((?jm n 0 lo:Nat):Int)/\(?a2W).2.1=((?jm n n hi:Nat):Int)/\(?a2W).2.2=1:=by apply#[?bv,?h];{cases lo with| none=>simp[sliceBounds,HT.sIx]| some i =>ext ao7};cases hi with| none=>simp[sliceBounds,HT.sIx]| some i =>ext ao7
def EL[?MP][?uA]:slicePick ?bO lo hi ?aO=((its.drop ?a9q).take (?jm ?a0S ?a0S hi-?a9q)).toArray:=by let ?TB:=iE lo hi ?yr;unfold slicePick;rw[h1,h2,h3];simp only[sliceRange_one,pick_run,qd4]<;>rfl
inductive Ar3[?n][?a61][?dS]:Prop| mk:∀a xs,?d4->?b4n ?gv ?aBh ?afx
abbrev Bh0[?n]:?xi:=?ayz ?afx
def zY:?b1Y Bh0:=by ext a5c;let#[a,xs,?h,hx,q]:=h;cases rx;let ?ahH:=?fZ hx;let hlen:=r.length;apply#[?eH,_,?aGs,ht.isList.typeIs,?_];apply wpAny_getItem_list_slice ht.isList hs pl pu ?aS ?G ?_ ?alT;rw[EL,←hlen];apply(?atf ?aBh ?DP);show#[?aYJ,_,0,?azI ?FQ,?eS]
def JN:?asW ?Gl (∃p ys,?fC/\?aco/\?aXL):=by ext el;let ?aCc:=h;ext a6D;let hn:=iX;rcases hq with hq | hq;{let ?BH:=?gI;let hlen:=r'.length;show Calls.call_len_list ?q0 ?uq ?aPG};ext a66;let hlen:=r'.length;show len_tuple pl ?uq ?aPG
def jN:?asW ?e7 (∃p ys,?fC/\?aco/\?aAU):=by ext el;have ?aCc:=h;have ?aFL:=?rx;cases rx;let fin:∀[?MP],?agj->?aOW->∀(h':Heap) (c':Nat),(∀b o',?vL=?i o'->?tM=?i o') → ?sp=?i { cls:=?e7,dict:=none,data:=?bI ?bO c',slots:=#v[] }->?atl ?bV ?f7:=λits r' hz h' c' kp e =>#[?bV,_,?ij (t':=s.toks) kp ?l (?b87 ?wj #[hz,its,c',r',e]),?h,?DP];rcases hq with hq | hq;{apply ?eX;let ?BH:=?gI;let hlen:=r'.length;let ?a42:=pl.isList;apply ?ej;show ?azW ?cB};ext ha;ext a66;let hlen:=r'.length;let ?a42:=pl;ext hn;show ?azW ?m4
def FA:?asW ?cU (∃p ys,?fC/\(?b8K ?a78 ?aMG)):=by ext el;let#[p,ys,?h,h]:=h;ext a6D;rcases h with⟨hq,q⟩|⟨hq,q⟩;{let ?BH:=?gI;let hlen:=r'.length;apply call_tuple_list ?q0 (λh' kp=>?_) ?uq;let I1:?a0U:=?vQ (t':=s.toks) kp;let I2:?asO (?C H ?aiD ?vO) ({ s with heap:=?b5K h'.push ?cU ?bO }) :=?PH (t':=s.toks) ?pA ?l (show ?cY ?bU X.w _ _ _ ?vO from#[hz,its,r',?a0E]);show#[?I ?aiD,_,I2,?h,q _ ?OO]};ext a66;show call_tuple_same pl #[?aK,?fo,q]
abbrev tyV[?n](T:String)(x:V)(H:Hp):Prop:=match x with| ?gq=>T=?w2| ?ja=>T=?id| ?aK=>(T=?eH/\∃xs,?ae4)\/(T=?iP/\∃o,?lK p=?Z/\?a3m/\?QP) ∨ (T=?lJ/\((∃kvs,H p=?zD)\/∃kvs,H p=?i ?tb))\/(T="set"/\∃S n,H p=?i ?acC)| _=>False
def At3[?aR]{T:String}{x:V}[?pq][?B](r:?lp)(ty:tyV ?a7 T x H) : ?nx v T/\∀a,?iH->∃ob,?eC a=?nr/\?agU:=by cases x with| str z =>ext kX;cases (show T=?w2 from ty);show#[typeIs_str s z t,?aer]| int i =>ext kX;cases (show T=?id from ty);show#[?a2a s i t,?aer]| ref p =>cases r;rcases ty with⟨rfl,xs,hq⟩|⟨rfl,o,hk,hc,hd⟩|⟨rfl,hk⟩|⟨rfl,S,n,hk⟩;{let(?b3Y pl):=?gI;apply#[?aTn,?aSp];cases e;let#[o,n,e,c,hd,_]:=pl;show#[o,e,hd]};{apply#[#[o,?dX p o hk,hc],?aSp];cases e;show#[o,?dX _ o hk,hd]};{(let z:∃o,?b0t p/\o.ExactDict:=by rcases hk with⟨kvs,hk⟩|⟨kvs,hk⟩;{let ?aiZ:=?ZP;show ?a1M};let ?aiZ:=?ZP;show ?a1M);let ?a1M:=z;apply ?aZA;cases e2;show ?aQ1};let#[o,?c6,e,ex,_]:=?ZP;apply ?aZA;cases e2;show ?aQ1| _=>show ?k5 ty
structure Cq2[?n](T:String)[?Lj](t:TA)[?pg][?fk]:Prop where
 mk::(left:tyV K T x H1) (right:t σ H1 λxs H2=>r x xs H2 Q)
abbrev tBM[?n](T:String)[?Lj](to:TE)(t:TA):TE:=?asJ to (Cq2 K T r t σ Q x H1)
variable{o e:Expr}[?dR][?apN]
def Bi0[?aoc][?hc] [?anz] (hplain:?W (?O1 (·.1)=false) ?aJ) : ?au2 ?aAd (tBM ?a7 T r to t):=by ext bE;apply wpAny_Call_method_late hbase hfew hline ?h (E6 ?DG ?yX);let#[x,?aE,r1,ty,q1]:=_z;let ?cR:=At3 I1 r1 ty;apply#[T,id,pa,slot,hty,?Q,?_];let hA:=?ays ha ?gN _;rw[hs]at hA ⊢;apply qv3 (by exact(false || ?O1 (·.1))=false;rw[hplain]<;>rfl) (zc6 ?_);show E6 hA λus s2 #[vs,?d2,r2,q2]=>hm Ae s2 σ H2 x vs v us Q I2 r1 r2 q2
universe e9
abbrev MtM(X:Cx)(id:String)[?Lj]:Prop :=?afK
def Vals.one:∀{x:V}[?bs],?adV->?aWr| _,_,?af r ?aH=>?aGO
def Vals.eraseIdx:?ayJ ?a3f (us.eraseIdx i)| _,_,_,?aH=>?aH| _,_,0,?Ba=>t| _,_,?k,?na=>?af r (Vals.eraseIdx i t)
def Vals.rep[?hm][?bs](h:?gD):∀k:Nat,?bq (?akk).flatten (?bh k us).flatten| 0=>?aH| ?F=>by rw[qm1,qm1,qn8,qn8];show ?aGa h (Vals.rep h k)
def GB[?dV]:∀(l:?d6) (i:Nat),(l.eraseIdx i).length<=l.length| [],_=>?l| ?bH,0=>?sB| _::r,?k=>qh2 (GB r i)
def gQ[?MP]:∀(k:Nat) (acc:?b4),?a1f ?WA acc.toArray (?bh k ?bO)=(acc++?aMp).toArray| 0,acc=>?G| ?F,acc=>by (let e:acc.toArray++its.toArray=(?RC).toArray:=?G);(let e2:?RC++?aMp=acc++(?bh ?F its).flatten:=by rw[qm1,qn8,qx6]);rw[←e2,←gQ its k ?RC,←e,qm1,qv6]
section
variable{X:Cx}[?aR]{l b:Addr}{xs ys zs:?a2}
def Bo.lset{its its':?b4}{n:Nat}{f:?dE->?dE}[?jA][?B](hH:?nD) (e:?aCM) (hf:f ?bO=its'.toArray) (hv:?ajz) [?a6j] : ?asO ?aFP ({ s with heap:=?GP l ?an9,toks:=t' }):=by let q:=PySem.IsL.update e f;rw[hf]at q;apply ?Ij (x:=l) (e:=l) (by rw[hH];show trivial) ?cB (λb' u hb hu=>(?aTo ?aA ?an9 ?aRD).trans hu) #[_,q] ?_;show#[hz,?lD,_,hv,q]
def Bo.lnew{its:?b4}[?jA][?B](hv:?agj)[?a6j] : ?asO (?C H ?aG ?wj) ({ s with heap:=?b5K ?li ?e7 ?bO,toks:=t' }) :=?ij ?ZR ?l #[hz,its,0,hv,?eS]
def Bo.fresh[?B]:?y3:=?kS
def Bo.lstM[?B](hH:?nD):?b5g (xs.length=its.length/\?aCM):=by have ?Ei:=?bL l _ hH;show#[z,?kj,?aOU,e]
def wY{n:Nat}(h:?Tz):?aYN n=false:=by unfold Builtin.List.listTooLong;show ?P8
universe e9
section
variable{X:Cx}
inductive mV(x:V)[?ch][?dS]:Prop| mk:∀l xs y,?zf->?ahA->?nD->?agS->?b4w ?as (xs++[y]) ?ajI
abbrev Aa7:?rN:=?ayU ?ajI
def Gi:MtM X "list.append" Aa7:=by ext LM;let#[l,xs,y,?V,hH,hz,q]:=h;cases rx;let ?tC:=rv.one;ext LT;apply ?oj F.slot_list_append ?t2 F.entry_list_append (F.args_list_append_2 _ _) (PySem.list_append l ?bO n u ?ak6) ?Jy;apply#[?as,_,?UV (its':=its++[u]) hH e ?G (?aPR ?aEG) ?_,?h,q];rw[qb6,qi3];ext d
inductive SG(x:V)[?ch][?dS]:Prop| mk:∀l xs i k y,?zf->(vs=[?aX])->?nD->(-?mM<=i)->(i<?mM)->(?amP=?Bo)->(?Sc=?hG)->?b4w y (?a7p k) ?aL8
abbrev Av4:?rN:=?ayU ?aL8
def LN:MtM X "list.pop" Av4:=by ext LM;let#[l,xs,i,k,y,?V,hH,?Q,hk,hy,q]:=h;cases rx;let ?tC:=rv.one;let ?dv:=ru;ext LT;let#[w,hw,rw']:=?pB hy;apply ?oj F.slot_list_pop ?t2 F.entry_list_pop (F.args_list_pop_2 _ _) (MeetsSeq.list_pop_at l ?bO n i t k w ?aQs (by ext ph;show hk) (by rw[←Array.getElem?_toList];show hw) ?ak6) ?Jy;apply#[y,_,?UV (its':=its.eraseIdx k) hH e ?_ (r.eraseIdx k) ?_,rw',q];{exact its.toArray.eraseIdxIfInBounds k=(its.eraseIdx k).toArray;rw[List.eraseIdxIfInBounds_toArray]};let:=GB xs k;ext d
inductive Ar4[?en]:Prop| mk:∀l k xs,?zf->(y=?f5)->?nD->(-?mM<=k)->(k<?mM)->?b4n (?asp (xs.length*k.toNat)) (?U (?bh ?xp xs).flatten) ?aRs
abbrev B49:R2:=?at0 ?aRs
def Ae6[?dV](xs:?d6)(k:Nat):(?akk).flatten.length=k*xs.length:=by induction k with| zero=>simp| succ k ih=>rw[qm1,qn8,qb6,ih,Nat.succ_mul,qo6]
def IM:Vr X ?aS0 B49:=by ext gT;let#[l,k,xs,?V,hH,?Q,hz,q]:=h;cases rx;ext iz;ext LT;(let hlen:?asp ?a0g:=by ext ph;show hz);(let hcap:¬?a0g > (?mM-1) / 8:=by (let:?Ur<=(?mM-1) / 8:=?L);ext d);(let hfit:¬?auy (! ?abI k):=by rw[?aQs];show qf5);(let Bn0:¬?b1G ?aYN ?a0g:=by rw[wY ?lT];show qf5);(let hnew:?b48 (if ?auy its.toArray.isEmpty then 0 else k.toNat) ?xp:=by (let f0:∀m:Nat,?b48 m m:=λm=>by let:=gQ its m [];rw[qt2]at this;show this);rw[f0];cases its with| nil=>simp| cons a r'=>rw[?r6]);apply wpAny_binaryOp_repeat_ref (T:=?eH) (U:=?id) ?L ?t2 (λs'=>?a2a s' k t) noFill_list_mul F.fills_int_mul ?amh repeat_list F.slot_int_index.lookup (?oj ?amh (?a2a s k t) F.entry_int_rmul (F.args_int_rmul_2 _ _) (int___rmul___int_list k t l ?bO n) #[e,?h,?t2,?oj F.slot_list_mul ?t2 F.entry_list_mul (F.args_list_mul_2 _ _) (AutoListH.list___mul___list_int_3 l ?bO n k t hfit hcap Bn0) ?Jy]);rw[hnew];show(?b0Q (?I _) (r.rep ?xp) (by rw[Ae6,Nat.mul_comm];show hz))
universe e9
section
variable[?dO][?bW][?bC]
universe e9
section
variable{X:Cx}
universe e9
universe L2
namespace Att
open PySem PySem.W PySem.Calls PyProof.Rows
def AV{P:Params}[?d1]:∀[?ga] (vs:?b4),WellAll P h vs ?JY->?yh:=by intro ns;induction ns with| nil =>intro vs w;rw[qu5]at w;cases w;show ?aH| cons n ns ih =>intro vs w;rw[qd7]at w;cases w with| cons a b =>cases a;show ?af _ _ (ih _ b)
def script_of{l:OpenLaw}{n:Nat}[?a72]{P:Params}[?d1]{args:?aR1}{vals:?b4} (hpre:?b1G l.row.toRowW.claim.pre ?jb) (hwl:WellAll P h vals ?jb) : ∃a vs ns,vals=[?ps]/\args=[?Jd]/\?hJ=?i ?HF/\?yh/\?Gx:=by let hsh:WShape.hasAll [] ?jb [.list ?t]=true:=(?aWV).1;let hc:l.pre.holds [] { args:=args }=true:=(?aWV).2;let#[d,r,?h,?Q]:=hasAllW_cons hsh;obtain rfl:=hasAllW_nil h2;let#[xs,?h,h3]:=hasW_list h1;let#[ns,?h]:=items_int h3;(let hlen:?Gx:=by unfold OpenLaw.pre at hc;(let h4:(WTm.not (.lt (.lit ?EY) (.len (.arg 0)))).holds [] { args:=[.list (?ko ?t)] }=true:=by let h4:=(holds_andW hc).1;rw[hn]at h4;show h4);let h5:=condW_of h4 (w_not (w_lt w_lit (w_len_list (w_arg ?h))));rw[qa3]at h5;apply qf4 ?jJ;let q':?aw<((ns.length:Nat):Int):=?g;first| (rw[qf0 q']at h5;show ?X h5 ?L)| (simp at h5;ext d));cases hwl with| cons w1 w2 =>cases w2;cases w1 with| list ho hall=>show#[_,_,ns,?V,ho,AV ns _ hall,?lT]
def post_true(l:OpenLaw)(args:?aR1):l.row.toRowW.claim.post ?jb ?kq ?jb=true :=postW_of (r:=l.row.toRowW) (X:=?ad0) (show WShape.has [] ?kq ?ed=true by first | rfl | decide | simp[WShape.has,WShape.arms,WShape.armsAll]) (show(WTm.eq .res (.lit ?kq)).value [] { args:=args,res:=?i ?kq,after:=args }=?i (?ed ?ad0) from w_eq_bool (w_res ?h) w_lit) ?h
section
variable[?dO][?bW][?bC]{K:Frag}
universe e9
universe Att
namespace L2
open PySem PySem.Spec PyProof.Rows
def fF:∀[?Al][?hg],?yh->?bq ?f9 vs| _,_,?aH=>?aH| _,_,?af n t h=>?af ?dv (fF h)
abbrev A74(H:Hp):Prop:=∀b,?cO\/∃o xs,H b=?i (.frz o ?qf)
def XN[?b6][?E]{mg mb:?gu}{CX:ZI}{k:Nat}{fa a:Addr}{fd:FuncData}{x:Str}{sp:Sp}{s₁:Shared}[?Al][?hg] (KX:K.In ?qP) (hns:?Uu ?a2A mg) (hb:?Uu ?aTk mb) (hbb:?aiz) (hlim:s₁.heap.NoLimit) (hg:?aJK) (ha:?aAE) (hi:?yh) (hl:?ab6) (hr:?aIF) (F:∀base:Heap,?aAH->?a4l->Bs P w K mg ?dG CX k fa fd [x] sp) (hbind:?a81) (lX:∀H:Hp,A74 H->?wc->sp ?e5 H ?aJJ ?q4) (hCX:∀H e s',CX [] H ?gw ?q4 e s'->False) : ?ajt:=by let rv:=fF hi;let B76:=hi.length;(let core:∀H:Hp,A74 H->?wc->?b1X H ?qP->(∀b,H b≠none->b=a)->(?yu->?auL ?lK a) → ?ajt:=by intro H hO hS hok hA hK;let rV:∀[?uC],?aDB->?cO->(?x1).get? b=?Z:=λe n=>XW e n;(let noA:∀[?uC]{es:?Hj}{ep:Nat},?aDB->?yv->?cO:=λ{b o es ep} e d=>by cases q:H b with| none=>rfl| some u =>let e':b=a:=?aAg;subst e';rw[ha]at e;cases e;let d':?aC0 ?pt _=Data.dict es ep:=d;cases d');let nsK:∀{b:Addr}[?Aa],?Uu b m->(?x1).Ns b m:=λ{b m} #[o,?az,e,d,r]=>#[o,?az,rV e (noA e d),d,r];let hKb:K.In ?x1:=?avb (rV (?b7d KX) (by cases q:H b with| none=>rfl| some u =>let e':b=a:=?aAg;subst e';rw[hK ?U4]at e;cases e));let hM:Mod K mg ?x1:=#[hKb,?aHv,#[mb,nsK hb,hbb],let #[mc,?Q]:=hlim;#[mc,nsK h1,h2]];let e0:pR P w K mg ?x1 ?vn [] ?gw H:=#[?h,hM,?avb (Ad1 e),qk4 (uF _ _),trivial,?avr (?X (show b∈([]:?cC) from hb) ?G),hok,.of_eq hg];apply ?JW ((F _ hKb ?aHv).run ?vn [] ?gw H ?akc ?e5 ?e5 _ _ hr e0 (hbind ?gw ?R) ?aP3 (lX H hO hS)) λr s' h=>?_;cases r with| error e=>show(hCX H e s' h).elim| ok fl =>cases fl with| next=>show ?k5 h| brk=>show ?k5 h| cont=>show ?k5 h| ret u =>have#[v,H',os,bare,un,Cb1,r',q]:=h;let q':v=?my:=q;subst q';obtain rfl:u=?nh ?hH:=r';apply#[?h,OldK.of_keep (?avb ?_),os,bare];cases q:H b with| none=>show un.keep b o e q (by intro z;show ?ano) ?G| some u =>rcases hO b with z|⟨ob,xs,z⟩;{rw[q]at z;cases z};let z2:=un.frzs b ob _ z;have#[e1,_]:=hok b _ z;have#[e2,_]:=Cb1 b _ z2;rw[e]at e1;cases e1;show e2);cases hk:?lK a with| some o =>let e:=KX a o hk;rw[ha]at e;cases e;apply core ?fM (λ_=>?cB) (?y #[_,?pt,_,hk,?V,?h,by rw[qd4,B76];show hl,?ag1]) (λb u z=>by let z':(none:?a0O)=?c0:=z;cases z') (λb z=>?aCr) λz=>?aCr| none =>apply core (λb=>if b=a then ?i (.frz ?HF ?aQU) else none) ?aik (?aud ?HF ?K) (λb u z=>?_) (λb z=>?_) λ_=>hk;{cases hb:b=a;{show ?y #[_,_,?A hb]};show ?x ?a2Z};{cases hb:b=a;{let z':=(?A hb).symm.trans z;cases z';subst hb;show#[ha,?a9Z,vs,_,rv,ha]};let z':=(?a2Z).symm.trans z;cases z'};cases hb:b=a;{show hb};show ?X ?a2Z z
abbrev Ex(s:Stmt)(j:Nat):Stmt:=match s with| .ClassDef _ _ _ ?ti _ _ _ _ _ _ _=>body.getD j ?aan| _=>?aan
abbrev K8(s:Stmt):Arguments:=match s with| ?a1K _ a _ _ _ _ _ _ _ _=>a| _=>{ posonlyargs:=[],args:=[],vararg:=none,kwonlyargs:=[],kw_defaults:=[],kwarg:=none,defaults:=[] }
abbrev Io(s:Stmt):?m2:=match s with| ?a1K _ _ b _ _ _ _ _ _ _=>b| _=>[]
abbrev Aq(s:Stmt):Scope:=match s with| ?a1K _ _ _ _ _ _ sc _ _ _=>sc| _=>{ kind:=?t1,names:=[],isGenerator:=false,isCoroutine:=false }
meta abbrev Ej:ZI:=λ_ _ _ _ _ _=>False
meta abbrev E0:XK:=?q4
def LA{X:Cx}:X6 Ej X E0:=λ_ _ _ _ _ _ _ h=>h.elim
structure Es[?n](x qual:Str)(st:Stmt)(f:Addr)(fd:FuncData):Prop where
 ex:∃(oc:Value) (od:OAddr) (kV doc pm:Value) (an:OAddr) (Dr ct:Value) (osl:W1),
  fd=?Cz/\?avF fd/\?Wg
 kp:?vi
section
variable[?b6][?E][?tu]
def Es.ok[?aoe][?aqp] [?ao2]:?aVD:=by have ?ah3:=F.ex;apply Bq5 lk hcd S len λA outer s H vs Q E hr lX=>?_;have#[t,h,q]:=hbody Dr A ?e0 s H vs Q E hr lX;show#[t,h.nox,q]
def Es.okZ[?aoe] [?ao2] (len:?Tw:=by intro vs H Q E h;set_option tactic.hygienic true in(repeat (rcases h with⟨⟩;rename_i h));all_goals first | show ?cv ?aai ?aSW | (subst_vars;rfl)):?aVD:=F.ok S len hbody
def Es.binds[?asB][?a6a](F:?aWu) (h:∀(kV doc pm:Value) (an:OAddr) (Dr ct:Value) [?j0],?b0O ?Cz):?Qi:=by let ?ah3:=F.ex;show .all (h kV doc pm an Dr ct)
def jG[?asB]{oc:Value}{od an:OAddr}{osl:W1}{kV doc pm Dr ct:Value}(l:?avF ?Cz) (c:?Wg) (k:?vi):Es K x ?hI st f ?Cz:=#[#[?a6v,l,c],k]
universe e9
section
variable{X:Cx}
def pv(i:Nat){x:Str}[?bX](hN:?aWo)(hv:?EU:=by first | show ?ajV | show ?a58 ?ajV | show ?a58 (?a58 ?h))[?tp] [?aq6]:?aEf:=Aw3 hN hv hd hcd
universe e9
def ite2[?a6i](h1:c->A)(h2:¬c->B):?Vw:=by cases h:c;{rw[?b3];show h1 h};rw[?ad];show h2 h
abbrev Same[?ml]:Prop:=∀b o,?aVn
def Same.refl(H:Hp):?cq H H:=λ_ _ h=>h
def Same.trans[?uP](a:?l1)(b:?NX):?aHs:=λc o h=>b c o ?aYI
def Same.free[?bF][?Mk]{l:Addr}(h:?auS H' l):?auS H l:=by cases q:H l with| none=>rfl| some o =>rw[e l o q]at h;cases h
def Same.seq[?E][?bF][?dP][?Mk](h:?gv):?aXH:=?atc ?aJ6 ?aJ6
abbrev EZ(cells:?oM):?L0->?oM->?oM| [],acc=>acc| ?a4Z,acc=>EZ cells r (if ?a1W then ?b1n ?BX else acc)
def DT{sc:Scope}{env:Env}(h:∀n,?a2d->?aMz):closureFor sc env=?b8s ?sq []:=by (let all:∀(l:?L0) (acc:?oM),(∀n,?a0F∈l->?aMz) → (forIn l acc λ(x:?aHi) (cs:?oM)=>match x with| (?dL,kind)=>if ?auy (?b4f kind) then(do let c ←cellOf env ?dL;?b6p ((?dL,c)::cs)) else ?b6p cs)=(?b8s l acc:Sem _):=by intro l;induction l with| nil=>intro acc _;rfl| cons x r ih =>intro acc hl;let#[n,k]:=x;rw[List.forIn_cons];ext a5z;{(let hk':?aCv:=?E7);subst hk';let ?WT:=?aae;(let e1:cellOf env n=?bo c:=by unfold cellOf;rw[hc]);simp only[beq_self_eq_true,if_true,e1,pure_bind];rw[?aW7];exact ?b9g (if ?auy (?b4f NameKind.free) then ?amk else acc);rw[?SV,hc];rfl};(let hk2:?awB ?T9:=?E7);simp only[hk2,qw7,if_false,pure_bind];rw[?aW7];exact ?b9g (if ?a1W then ?amk else acc);rw[?kG]);let:=all ?sq [] h;unfold closureFor;dsimp only;rw[this,pure_bind]
def Jb[?arr]{c:Addr}:∀[?aqq],(∀n,?a0F∈l->∃c,?BX n=?e3) → (acc.lookup x=?e3->?a9c)->?ayo x->?a9c| [],_,_,ha,h=>ha h| ?a4Z,acc,hl,ha,h=>by apply Jb (l:=r) ?add ?_ h;ext a5z;{rw[?mJ];(let hk':?aCv:=?E7);subst hk';let#[d,hd]:=?aae;intro e;rw[qu7]at e;cases hx:?ut with| true =>rw[hx]at e;(let hxn:x=n:=?wr);subst hxn;rw[hd]at e ⊢;show e| false=>rw[hx]at e;show ha e};rw[?kG];show ha
def dU[?arr]:∀[?aqq],(?a2b∈l\/∃c,acc.lookup x=?e3)->∃c,?ayo x| [],_,h=>by rcases h with h | h;{show ?Fz};show h| ?a4Z,acc,h=>by apply dU (l:=r) ?_;ext a5z;{rw[?mJ];cases hx:?auy ?ut;{show ?y #[(?BX n).getD 0,by rw[qu7,hx]]};(let hx2:?awB ?ut:=?wr);rcases h with h|⟨c,h⟩;{rcases ?rT with e | e;{let e1:x=n:=?cv Prod.fst e;show ?X (by simp[e1]) hx};show ?xc};show ?y #[c,by rw[qu7,hx2];show h]};rw[?kG];rcases h with h | h;{rcases ?rT with e | e;{let e2:NameKind.free=k:=?cv Prod.snd e;show ?X (by simp[←e2]) hk};show ?xc};show ?kD
abbrev G8(X:Cx)[?a6p][?ca](s₀:Shared)(H₀:Hp)[?MZ]:Cx where
 prog:=X.prog
 w:=X.w
 K:=X.K
 mg:=X.mg
 base:=X.base
 A:=X.A
 N:=N'
 s₀:=s₀
 H₀:=H₀
 env:=compEnvC sc ?NF C ?T
 outer:=X.stack
 stack:=X.stack
 ex:=fp
 fn:=λ_=>false
 calm:=X.calm
 pn:=[]
 xe:=?nT
abbrev pG[?Ly](σ:St):St:=cap.map ?aEq
structure aQ(X:Cx)[?a6p][?Ly]:Prop where
 kind:?C8
 len:?alL
 nocell:?agk
 locals:∀x∈sc.names,?aFk
 free:∀n,?a2d->?wM n=?eP\/?wM n=?iW
 slots:∀[?dU] (x:Str),?b00 N'->?avL cap ?gk->X.N[j]?=?d7/\?aZY/\?EU
section
variable[?AB][?aR][?ki][?j1]
def aQ.cells[?MF](ok:X.Ok):∀n,?a2d->∃c,?Ii n=?e3:=λn hn=>ok.has n (c.free n hn)
def N7{env:Env}{x:Str}{k:NameKind}(hnc:?agk)(h:(relabel sc env).names.lookup x=?Bo)(hk:k=?CI\/k=?A4):?aK9:=by (let all:∀(l:?L0),(∀x∈l,?Pt)->(?zJ λ ?nN=>if (?T9&&?aGW&&?aZi) then ?Zm else ?nN).lookup x=?Bo->?a2b∈l:=by intro l;induction l with| nil=>intro _ h;show ?Fz| cons p r ih =>intro hn h;let#[n,q]:=p;rw[qd7,qu7]at h;cases hc:?auy (?b4f q&&?aGW&&?aZi);{(let hq:q=NameKind.free:=by let:=hc;simp only[qc2]at this;simpa using ?aet);simp only[hc,if_true]at h;cases hx:?ut with| true =>(let e:x=n:=?wr);rw[e,hq];show qb9| false =>rw[hx]at h;ext arC};simp only[hc]at h;cases hx:?ut with| true =>(let e:x=n:=?wr);simp only[qw7,if_false,hx]at h;(let e2:q=k:=?lu);rcases hk with z | z;{show ?X (e2.trans z) (hn (n,q) qb9)};rw[e,←z,←e2];show qb9| false =>simp only[qw7,if_false,hx]at h;ext arC);show all ?sq hnc h
def Ag6[?MF][?B](hC:?a3U)[?pR][?arn]:(?aIv).Ok where
 mod:=I.ok.mod
 kind:=c.kind
 glob:=I.ok.glob
 blt:=I.ok.blt
 above:=hC
 inj:=λx y a hx hy=>?aMS x y a (?b2d hx) (?b2d hy)
 has:=λx hx=>by
  apply dU ?aLz;rcases hx with hx | hx
  . show N7 ?wa hx ?cB
  . show N7 ?wa hx ?m4
 cab:=λ_ _ h=>?Fz
 hd:=I.ok.hd
 frames:=I.ok.frames
 stk:=?cB
 exf:=λb hb'=>#[?b52 ?aO5 hC,λx a e=>(?HW).2.2.2.2.1 x a ?Zo]
 bs:=I.bs
 bsz:=?ahj
 noex:=λb o e hb'=>by
  rcases (?HW).2.2.2.1 with z | z
  . show ?abN b o e z
  . show ?aue ?n5 (?m ?R3 z)
 exfs:=λb hb' z=>by
  let#[_,f1,f2,_]:=?HW;rcases ?YK with e | e
  . show f1 e
  . show f2 e
 funs:=I.stack
 frf:=I.stkFree
def YO[?MF][?B][?dW]{h1:Heap}{t:Nat}(hC:C=?ba)(hD:?avo D)[?pR][?arn] (hn:h1.Ns C ?fM) (hl:?Ju D=?axw 0) (k:?a9K) : Bo ?aIv [] ?z4 ?QB { s with heap:=h1,toks:=t }:=by (let hCs:?a3U:=?ae6);(let hCD:C≠D:=by rw[hC,hD];show ?DQ);let ok:=Ag6 (C:=C) (fp:=fp) c I hCs hf hb;(let hDn:?bl:=by rw[hD];show I.fresh);let ltc:∀x a,(?NF).lookup x=?y1->?amK:=λx a e=>?Zo;let cel:∀a v,?HM a v->h1.IsCell a v:=λa v ?Vm=>#[o,k a o ho,hd];(let ltD:∀a v,?HM a v->?yM:=λa v ?Vm=>by rw[hD];show ?a1w);apply#[ok,?h,?fu,Un.laid k ?aGh hDn,#[_,hn,?aSw],?aCs,?_,?aCs,?agB,?bv];{(let e2':cap[i]?.map ?aEq=?Rk:=by let:=e2;unfold pG at this;rw[qa6]at this;show this);cases hc:cap[i]? with| none=>rw[hc]at e2';cases e2'| some o =>rw[hc]at e2';cases o with| none=>cases e2'| some j =>(let e4:?aLN=?aW:=by simpa using e2');ext ha;let#[q1,q2',q3]:=c.slots i j x e1 hc;let q2:?aK9:=q2'.elim (λz=>N7 ?wa z ?cB) λz=>N7 ?wa z ?m4;let#[m,hm,hl']:=I.loc;(let e5:?S7=?Rk:=by cases z:?S7 with| none=>rw[z]at e4;cases e4| some y=>rw[z]at e4;cases y with| none=>cases e4| some y'=>cases e4;rfl);let ?QH:=hl' j x v q1 e5 q3;ext hn;apply ?aWX;let#[a,ha]:=dU (cells:=X.env.cells) (l:=sc.names) (acc:=[]) (x:=x) (?x q2);let kd:?al1:=c.free x q2;rcases l with⟨hk,_⟩|⟨hk,a',ha',hcell⟩;{rcases kd with z | z<;>rw[z]at hk<;>cases hk};(let e6:a'=a:=by let:=ltc x a ha;rw[ha']at this;show qb1 ?P);apply ?y #[q2',a,ha,?_];rw[←e6];show cel _ _ hcell};{let ?a1J:=?aG9;show#[v,cel a v z]};{exact ?C H D ?tN C=none;rw[Aj hCD];show ?ob hCs};{exact ?C H D ?tN a=none;let ?a1J:=?aG9;rw[Aj (ltD a v z)];show ?pC x a ?aRT};{show ?a9R k ?aGh #[?a5,[],0,?aH,hl]};exact ?atm ?z4 N'.length;unfold pG;rw[qa3,c.len]
universe e9
abbrev Ag8(osc:Scope)(N:?bM)[?a6p][?Ly]:Bool :=?azB ?C8 ?alL&&?azF ?Pt&&?azF ?aFk && ?azF (x.2=NameKind.free->(?xg x.1=?eP\/?xg x.1=?iW)) && (?Yr).all (λp=>match p.2 with| none=>true| ?gk=>?w (?b79 N ?v)&&?w ((?at7 ?eP) ∨ (?at7 ?iW)) && ?w (?Oa=?kM\/?Oa=?eP\/?Oa=?iW))
def RS[?AB](h:?aAx):?EV:=by unfold Ag8 at h;rw[qc2,qc2,qc2,qc2,qc2,qe3,qe3,qe3,qe3]at h;let#[#[#[#[?cR,h3],h4],h5],h6]:=h;apply#[qc9 h1,qc9 h2,?ax9 (qc9 (h3 x hx)),?ax9 (qc9 (h4 x hx)),λn hn=>qc9 (h5 _ hn) ?h,λi j x e1 e2=>?_];(let hm:(x,?gk)∈?Yr:=by (let e:?avL ?Yr (x,?gk):=by rw[List.getElem?_zip_eq_some];show#[e1,e2]);show ?vm);let h7:=h6 _ hm;dsimp only at h7;rw[qc2,qc2]at h7;let#[#[h8,h9],h10]:=h7;show#[qc9 h8,qc9 (p:=?aZY) h9,qc9 (p:=?atg ?kM\/?atg ?eP\/?atg ?iW) h10]
abbrev PTs(X:Cx)(ifs:?dD)(t:TT):Prop :=∀[?c3] [?u8],?bQ->?n4 → ?asI (forIn ifs ?hH λc r=>if r=true then do let ok ←?N2 c ?T ?aMC;?b6p ok else ?b6p r) ?a30
abbrev sY:TT:=?axu ?hH
def B5{X:Cx}:PTs X [] sY:=?ats (wpAny_tests_nil #[H,I,h])
def Ml{X:Cx}{c:Expr}{t:TT}(h:PT X c t):PTs X [c] t:=?b5v wpAny_tests_one
abbrev U3(J:It)(g:TG)(tc:TT)(te:TE)[?hq](Q:?ar)(τ:St)(H:Hp):Prop :=∃W:?ayu ?aeb,(∃m,W 0 m [] τ H)/\∀i m ys τ H,W i m ys τ H → (?a2c/\Q H) ∨ (?Qk/\∃N:?anH,(∀ys' τ' H',N ys' τ' H'->∃m',?so/\W ?k m' ys' τ' H') ∧ ∀x H',?aXg->g x τ H' (?awL tc (λb H3=>if ?xq then ?b5R τ2 H3 τ2 else N ys τ2 H3)))
section
variable[?AB][?art][?bX][?ka]{te:TE}
def uS{Y:Cx}{J:It}[?j1]{it D:Addr}{tn:?KV}[?Lv]{Q:?ar}{τ:St}{H:Hp}[?bC] (hx:Y.xe=?nT) (hc:?auy Y.calm) (hg:PG Y tg g) (ht:PTs Y ifs tc) (he:PE Y elt te) (T:v7 Y.prog Y.w Y.K tg J fp it tn) (st:?abQ) (hf:∀b∈fp,Pl Y [] H b) (I:Bo Y [] τ H s) (h:?asP J tc) (hR:∀τ' H' s',?aig->Q H'->R ?aH2 s') : ?jl (?zy Y.prog Y.w) Y.A (?b1x ?aGI) R s:=by let#[W,?aAR,turn]:=h;let NI:∀{H':Hp},?nX->∀b∈fp,Pl Y [] H' b:=?b2Q ((?sX).2);(let no:∀{P:Prop}{e:Value}{s':Shared},Y.xe e s'->P:=λz=>by rw[hx]at z;show z.elim);apply codeAny_loop ?h (λn s'=>∃i ys τ' H',?aig/\?aVm/\?b2F n) ?_ m0 #[0,[],τ,H,I,st,?qx,w0];rintro n s3 ⟨i,ys,τ3,H3,I3,st3,zM,w3⟩;exact ?p _ Y.A ((?b1x compTurn).onRaise (λx=>do noteFrame x Y.env;theTreesLotGoes x)) _ _ s3;apply wpAny_noted ?_;rw[compTurn_list];apply ?q (?RS ?iR);rcases turn i n ys τ3 H3 w3 with⟨stop,qn⟩|⟨go,N,hN,step⟩;{apply ?auT T.done stop;let ?aT2:=_z;subst hr;show qc6 (hR _ _ _ I4 qn)};apply ?auT T.item go;let ?af8:=_z;subst hr;apply ?q (qo2 h4 ?akm ?a2r);ext apC;(let again:∀{τ7:St}{H7:Hp}{ys7:?a2}{s7:Shared},Bo Y ([]++?aLm) τ7 H7 s7->N ys7 τ7 H7->∃m,m<n/\∃i ys τ' H',Bo Y [] τ' H' s7/\?aO4/\?b2F m:=λ{τ7 H7 ys7 s7} I7 n7=>by let ?aF8:=hN ys7 τ7 H7 n7;apply#[m',hm,?k,ys7,τ7,H7,?Do,?aQV,?d9,w7];let ?abz:=?acP;ext aqU);apply ?b7O (?ayM τ3) ?aFd;let#[τ6,H6,I6,q6]:=_z;apply ?b7O (ht _ s6 τ6 H6 _ I6 q6) (λok s7 _z=>?_);let#[H7,I7,q7]:=_z;cases ok with| false =>(let q8:N ys τ6 H7:=?aYj);show qc6 #[?h,again I7 q8]| true =>(let q8:?b5R τ6 H7 τ6:=?aYj);apply ?q (?b7O (he _ s7 τ6 H7 _ I7 q8) (λy s8 _z=>?_));let#[v8,H8,I8,r8,hD,hl,n8]:=_z;apply ?q (qo2 (Gi _ s8 τ6 H8 ?cr [v8] ?cr [y] (λ_ H9=>N (ys++[v8]) τ6 H9) I8 ?h (?af r8 ?aH) #[D,ys,v8,?V,hD,hl,n8]) (λ_ s9 _z=>?_) ?C6);let#[_,H9,I9,_,n9]:=_z;show qc6 (qc6 #[?h,again I9 n9])
def DS[?aR]{J:It}[?j1]{it:Addr}{tn:?KV}{RR:?eh->?of->?adx}{Q:?of->?ar}[?mX] [?MF] [?dp] [?a5g] [?a5K] [?B] (T:?acw) (st:?abQ) [?pR] (h:∀D,?bl->?b3Q (Q D) ?QB) (hR:∀D C s' H' m',?bl->?a3U->?a06->?Bb->?axh ?v6 fp ?kr->?aLq->s'.heap.Ns C m'->?auL H' C->C ∉ fp->?b9D D->RR ?cr C ?aH2 s') : ?p ?a3 ?a4 ?ags (λacc s₃=>?p ?a3 ?a4 (newFunctionEnv sc X.env.globals ?NF [] X.env.qual ?aO ?aS (?i ?T)) (λcenv s₄ =>?jl ?a3 ?a4 (.compStart ?lH 0 ?ew acc { cenv with scope:=?N4 }) (RR acc cenv.locals) s₄) E s₃) E s:=by (let hb:?a8U:=?avr (by let ?and:=T.obj _ _ st b hb;ext eL));apply qq0 (wpAny_newFunctionEnv ?wa (by intro y hy;simp at hy) (λh₁ A36 Af0=>?_) ?a3s);dsimp only at A36 Af0 ⊢;generalize hH2:?li { cls:=?e7,dict:=none,data:=?bI ([]:?b4).toArray }=H2 at A36 Af0 ⊢;(let hC:H2.objs.size=?ba:=by rw[←hH2,ql3]);(let hCl:?auC H2.objs.size:=?ae6);(let hCn:?axD H2.objs.size:=by rw[hC];show(?DQ).symm);(let old:?auO ?g7 (?aY1 b=?Z):=λb o e=>by let l1:=?n5;show ?aB3 b o (?b52 l1 hCl) (?avR (hH2▸ ?lV)));let hl:?aY1 ?aG=?axw 0:=?aB3 _ _ hCn (?avR (hH2▸ ?eS));(let Cb4:h₁.Ns ?Wc ?fM:=by simpa using A36);let I4:Bo ?B8 [] ?z4 ?aBS ?aMv:=YO c I hC ?h hf hb Cb4 hl old;let hfr:?y3:=I.fresh;(let f4:∀b∈fp,Pl ?B8 [] ?aBS b:=λb hb'=>by let ?aPW:=?HW;let lb:=?aO5;apply#[by rw[Aj (qf1 lb)];show f0,(?b52 lb hCl:b≠H2.objs.size),?f3,?x hb',λx a e=>f4 x a ?Zo,?agB];rcases ?YK with e | e;{show f1 e};show f2 e);let st4:tn 0 h₁:=T.keep _ _ _ st λb _ o e=>?b7d old;(let loop:∀s₅:Shared,s₅=?aMv → ?jl ?a3 ?a4 (?aGI ?lH 0 ?ew ?bV (?B8).env) (RR ?bV ?Wc) s₅:=by rintro s₅ rfl;apply uS (Y:=?B8) (J:=J) (fp:=fp) (tn:=tn) (Q:=Q ?aG) ?h hc (?b8R hg _) (?b8R ht _) (?b8R he _) T st4 f4 I4 (h _ hfr) λτ' H' s' I' q'=>?_;let#[m',hn',_]:=I'.loc;show hR _ _ s' H' m' hfr hCl I'.os I'.bare I'.base I'.hok hn' I'.free (λz=>?aue (hb _ z) hCl) q');show codeAny_compStart_list ?aID (T.self _ 0 _ _ _ st4 ?aID)
abbrev Ak4(wi:TI)[?Ly](g:TG)(tc:TT)(te:TE):TE:=λσ H Q=>wi σ H λJ H1=>∀D,?auL H1 D->?b3Q (λH'=>?dB) (?C H1 D ?tN)
def Bo.fpCh{Ae:Bn}{H:Hp}[?j1][?pR]:∀b∈fp,?aAY :=?avr (let #[_,f1,_,f3,f4,f5]:=?sX;#[f3,f1,f4,f5])
def B6{wi:TI}[?dp][?aq8][?a5g][?a5K] [?a5V]:?au2 ?lH ?akq:=by ext bE;let c:?EV:=RS hcap;rw[eval_ListComp];apply ?aJb (use:=none) ?h hs ?aCC ?a3s ?aNT ?Rf;ext aqP;apply DS (RR:=?ay0 ?aO ?g9) (Q:=λD H'=>?dB) c hc hg ht he I2 T st2 f2 hW ?_;intro D C s' H' m' hD hC hos hbare hun hok hn hHC hCf q;apply#[m',hn,λh' Wa=>?_];ext aoS;let I4:?asO H' ({ s' with heap:=h' }):=I3.turned (t':=s'.toks) (λb o hb e=>?atB b hb e) hHC k1 k3 k4 k5;show#[?cr,H',I4,?h,q]
private def Mm{wi:TI}[?me]{px spos:Pos}(hN:X.N.Nodup)(hi':?uX)(hx:?a0i)[?dp][?aq8] [?a5g] [?a5K] (hsw:?atv (?uj ?lH (?i ?GR) spos.line ?T=?bo ?hH)) [?a5V] [?pK] : PS X (?uu [?GR] ?lH spos) (zV ?akq ?O5):=by ext hY;let c:?EV:=RS hcap;rw[?ayG exec_Assign_Name_used hsw];apply ?q (?RS ?iR);exact ?atE ?a4 (do let _ ←comprehension ?lH sc ?T _ ?ags ?cx ?aiy ?PB);apply ?q (E6 (?aJb (use:=?PB) (Q:=?aei) ?h hs ?aCC ?a3s ?aNT ?Rf) λ_ s' hq=>qc6 ?adC);ext aqP;apply DS (RR:=?ay0 ?PB ?aei) (Q:=λA H'=>gP i ?DO σ H' ?lg) c hc hg ht he I2 T st2 f2 hW ?_;intro A C s' H' m' hD hC hos hbare hun hok hn hHC hCf q;ext aoS;exact ?p _ ?a4 (?rW ?GR ?T ?DO) _ _ s';apply ?a85 (FL I3 hN hi' hx (v:=?DO) ?h (λs'' I'' _z=>?_) hf);let#[a,Wa,ha]:=_z;(let hCa:C≠a:=by rcases ha with z | z;{rw[z];show k1};show λz'=>k4 x a z z'.symm);apply#[m',?aDY Wa hCa,λh' Ca4=>?_];let I4:Bo X Ae (σ.set i (?i ?DO)) H' { s'' with heap:=h' }:=I''.turned (t':=s''.toks) (?b7E ((Ca4.2 b hb).trans e)) hHC k1 k3 k4 k5;show#[_,H',I4,q]
universe e9
section
variable[?ka][?gU]
def Qo[?E][?dP][?ek][?a5h] [?ao4]:?asP ?mz tc:=?a82
def yO[?E][?dP][?ek][?aqI] [?ao4]:?asP ?o4 tc:=?a82
def X0{lo:Int}{n:Nat}[?ek] (hs:?auN ?M (g ?z2 τ H ?Pm)) [?aro]:?asP ?rL tc:=by apply#[?b0B n ?ec,?Zu,?_];rintro i m ys τ H ⟨rfl,hi,p⟩;cases hlt:?M;{apply ?b2C hlt;let ?Ia:=y;subst e y;show hs i ys τ _ hlt p};ext Lb;show ?b0l ?l ?aFy
universe e9
universe L2
namespace L2
open PySem PySem.Spec PyProof.Rows PySem.SeqAt
inductive D where| non | bl (b:Bool) | int (i:Int) | str (x:Str) | tup [?B2] | lst [?B2]
mutual abbrev Rep[?n](H:Hp):?asf V D| v,?as=>v=?as| v,?fy=>v=?fy| v,?aX=>v=?aX| v,?m7=>v=?m7| v,?ov=>∃a vs,?iH/\?aw6 H a vs/\?kB| v,?x9=>∃a vs,?iH/\?asu a vs/\?kB abbrev Reps[?n](H:Hp):?asf ?a2 ?fG| vs,[]=>?H5| vs,?lF=>∃v r,?aB8/\?tG/\?au8 r ds end
mutual abbrev imm:?Rw| ?FH=>false| ?ov=>?YO| _=>true abbrev imms:?aPo| []=>true| ?lF=>imm d&&?YO end
mutual abbrev dep:D->Nat| ?x9=>?kx+1| ?ov=>?kx+1| _=>0 abbrev deps:?fG->Nat| []=>0| ?lF=>max ?K1 ?kx end
mutual abbrev eqD:D->?Rw| ?as,?as=>true| .bl a,?fy=>?DX| .bl a,?lN=>(if a then 1 else 0)==b| ?uh,?fy=>a==(if b then 1 else 0)| ?uh,?lN=>?DX| ?f8 a,?f8 b=>?DX| ?b5 a,?b5 b=>?t4| ?U a,?U b=>?t4| _,_=>false abbrev eqDs:?fG->?aPo| [],[]=>true| a::r,b::q=>eqD a b&&eqDs r q| _,_=>false end
mutual def Uo(d:D):?ayI eqD d d:=by cases d with| non=>rfl| bl b=>simp[eqD]| int b=>simp[eqD]| str b=>simp[eqD]| tup ds=>ext uG;show ?a1y ds| lst ds=>ext uG;show ?a1y ds def eqDs_refl[?B2]:?ayI eqDs ds ds:=by cases ds with| nil=>rfl| cons d r=>simp only[eqDs,qc2];show#[Uo d,?a1y r] end
def eqDs_len:∀{a b:?fG},?auy ?t4->?DF| [],[],_=>rfl| [],?bH,h=>?aST| ?bH,[],h=>?aST| x::a,y::b,h=>by simp only[eqDs,qc2]at h;rw[qd5,qd5,?aj7 h.2]
def Um:∀(a b:?fG),?DF->?t4=(?dz a.length).all λj=>match a[j]?,b[j]? with | ?d7,?hG=>eqD x y | _,_=>true
 | [],[],_=>by simp[eqDs]
 | [],?bH,h=>?gL
 | ?bH,[],h=>?gL
 | x::a,y::b,h=>by
   let h':?DF:=?lu
   rw[qd5,List.range_succ_eq_map,List.all_cons,List.all_map];simp only[eqDs,Um a b h']
   congr 1
structure Z0[?ml]:Prop where
 tup:?Ce
 frz:?P0
section
variable[?E]{H H' H1 H2:Hp}{a l p:Addr}[?hm]{o:HO}
def Same.t[?Mm]:?z7:=#[λb xs h=>x b _ h,λb o u h=>x b _ h]
def Z0.lst(h:?nD):Z0 H ?aDf:=#[λb ys e=>?a7q,λb ob u e=>?a7q]
def Same.new(h:?Jf):?cq H ?aDf:=λb u e=>?avk ?HZ
def Same.turn(x:?l1)(h:?Jf):?cq H (?C H1 l o):=λb u e=>by rw[Aj ?HZ];show x b u e
def SqT.t(x:?z7)[?Ah]:?a1X:=?atc (?I4 _ _ h) (?b8R x.frz h)
def Same.seqT[?Mm][?Ah]:?a1X:=h.t x.t
mutual def Rep.t(x:?z7){v:V}{d:D}(hi:?b1G imm d)[?MU]:?anY:=by cases d with| non=>show h| bl b=>show h| int i=>show h| str x=>show h| tup ds =>ext pW;show#[a,vs,e,q.t x,Reps.t x (by simpa[imm]using hi) r]| lst ds=>simp[imm]at hi def Reps.t(x:?z7)[?aV][?hl](hi:?auy ?YO)[?MG]:?aja:=by cases ds with| nil=>show h| cons d r =>let ?a4e:=h;simp only[imms,qc2]at hi;show#[v,q,e,Rep.t x hi.1 h1,Reps.t x hi.2 h2] end
mutual def Rep.same[?Mm]{v:V}{d:D}[?MU]:?anY:=?asn #[a,vs,e,x.seqT q,?SS x r] #[a,vs,e,x.seq q,?SS x r] def Reps.same[?Mm][?aV][?hl][?MG]:?aja:=?auP #[v,q,e,?lQ x h1,?SS x h2] end
def Reps.length:∀[?aV][?hl],?kB->?ayW ds.length| vs,[],h=>by ext Lg;rfl| vs,?lF,h=>by let ?aMc:=h;rw[qd5,qd5,Reps.length h2]
def Reps.get:∀[?aV][?hl]{i:Nat}{d:D},?kB->?Ri->∃v,?hD/\?tG| vs,[],i,d,h,e=>?oh| vs,?a57,0,d,h,e=>by let#[v,r,?h,h1,_]:=h;ext aqz;show#[v,?G,h1]| vs,?a57,?k,d,h,e=>by let ?aMc:=h;let ?a4K:=Reps.get (i:=i) h2 ?cw;show ?a7E
def Reps.getV:∀[?aV][?hl]{i:Nat}{v:V},?kB->?hD->∃d,?Ri/\?tG:=λ{vs ds i v} h e=>by let hl:=h.length;let hi:?RN:=?a0a;obtain⟨d,hd⟩:∃d,?Ri:=#[?b6u ds,?hB];let ?a4K:=h.get hd;rw[e]at e1;cases e1;show#[d,hd,e2]
def Reps.append:∀{vs ws:?a2}{ds es:?fG},?kB->?au8 ws es->?au8 ?aaR (ds++es)| vs,ws,[],es,h,h'=>by ext Lg;show h'| vs,ws,?lF,es,h,h'=>?b1V (r++ws) (Reps.append h2 h')
def Reps.one{v:V}{d:D}[?MU]:?au8 [v] [d]:=#[v,[],?h,h,?h]
def Reps.snoc[?aV][?hl]{v:V}{d:D}[?MG](h':?tG):?au8 ?Ms ?Sr:=h.append (.one h')
def Reps.take:?b4T vs.take ds.take| vs,ds,0,h=>by simp[Reps]| vs,[],?r,h=>?aGL| vs,?lF,?r,h=>?b1V (?Re n) (Reps.take n h2)
def Reps.drop:?b4T vs.drop ds.drop| vs,ds,0,h=>h| vs,[],?r,h=>?aGL| vs,?lF,?r,h=>by let ?a1u:=h;show Reps.drop n h2
abbrev Ek[?ga]:?fG:=?ko D.int
meta abbrev tI[?ga]:D:=?b5 ?xA
def GI:∀ns:?O,?b1G imms ?xA| []=>rfl| ?IN=>by exact ?auy (imm ?fD&&imms ?xA);rw[GI ns];rfl
def xT[?ga]:?b1G imm ?aQi:=GI ns
def CZ:∀xs:LLInt,?b1G imms ?gm| []=>rfl| ?r9=>by exact ?auy (imm ?NM&&imms ?gm);rw[CZ xs,xT];rfl
def GR:∀a b:?O,?aEa=?a2o| [],[]=>?S3| [],?bH=>?S3| ?bH,[]=>?S3| x::a,y::b=>by exact(eqD ?Cg (?t y)&&?aEa)=_;rw[GR a b];ext uG;cases e:x=y;{subst e;cases e2:a=b<;>simp[e2]};simp[e]
def yG(a b:?O):eqD (tI a) (tI b)=?a2o:=by ext uG;show GR a b
def Fh:∀[?aV][?hg],?au8 vs ?xA↔vs=?f9| vs,[]=>Iff.rfl| vs,?IN=>by constructor;{rintro ⟨v,r,rfl,h1,h2⟩;let jS:v=?fD:=h1;rw[jS,Fh.mp h2];rfl};rintro rfl;show#[?fD,?f9,?V,?alE]
universe e9
section
variable{X:Cx}[?aR]
def qN[?B][?av][?Au][?a70](h':?aGA):False:=by
 let#[?fq,#[o,e,c,n,d],_]:=?eE h;let(?azY c'):=?fZ h';rw[e]at e';cases e';rw[c]at c';let z:(?iP:String)=?eH:=by injection c'
 show ?X z ?L
mutual
def Rep.inj[?B]{v:V}{d e:D}(h:?b1l v d)(h':?Pw):d=e:=by
 cases d with
 | non=>cases (?axa ?as);cases e<;>first | rfl | (exfalso;first | (cases (?aw5 V.non)) | ext Le)
 | bl b=>cases (?axa ?fy);cases e<;>first | (cases ?aA0;rfl) | (exfalso;first | (cases ?aA0) | ext Le)
 | int b=>cases (?axa ?lN);cases e<;>first | (cases ?an1;rfl) | (exfalso;first | (cases ?an1) | ext Le)
 | str b=>cases (?axa (?f8 b));cases e<;>first | (cases ?alx;rfl) | (exfalso;first | (cases ?alx) | ext Le)
 | tup ds =>
   let#[a,vs,rfl,q,r]:=h;cases e with
   | tup es =>
     ext LY;let e1:=?IY q q';subst e1;rw[?aaY]
   | lst es =>
     ext LY;show(qN I q q').elim
   | non=>ext mS
   | bl _=>ext mS
   | int _=>ext mS
   | str _=>ext mS
 | lst ds =>
   let#[a,vs,rfl,q,r]:=h;cases e with
   | lst es =>
     ext LY;let e1:=?J0 q q';subst e1;rw[?aaY]
   | tup es =>
     ext LY;show(qN I q' q).elim
   | non=>ext mS
   | bl _=>ext mS
   | int _=>ext mS
   | str _=>ext mS
 def Reps.inj[?B][?aV]{ds es:?fG}(h:?yF)(h':?b2 ?a7 H vs es):ds=es:=by
 cases ds with
 | nil =>
   cases (show vs=[] from h);cases es with
   | nil=>rfl
   | cons e es=>ext AJ
 | cons d ds =>
   let#[v,r,rfl,h1,h2]:=h;cases es with
   | nil=>cases (show v::r=[] from h')
   | cons e es =>
     let#[v',r',z,jS,h2']:=h';cases z;rw[?a04 I h1 jS,?ahK I h2 h2']
end
abbrev EqD(X:Cx)(H:Hp)[?gd](d:D):Prop:=∀(A:Around) (x y:V) (u v:Value) (e:D),?axH ?K1->?PE->?b1l y e->?go->?T2->RcAt A s u v ?TC/\EqAt A s u v ?TC
def iF[?B]{ds es:?fG}{vs ws:?a2}{us us':?b4}[?dT](hu:?aVg)(r:?yF)(r':?b2 ?a7 H ws es)(rv:?oa)(QG:?bq ws us')
 (ih:?aIy) (hdm:∀d∈ds,?am2):∀j (h1:j<us.toArray.size) (h2:j<us'.toArray.size),EqAt A s ?aMA ?af5 (match ds[j]?,es[j]? with | ?d7,?hG=>eqD x y | _,_=>true):=by
 intro j h1 h2;let l1:=r.length;let l2:=r'.length;let l3:=rv.length;let l4:=QG.length;let jS:j<us.length:=?zs
 let h2':j<us'.length:=?a4f
 let e1:?b79 ds ?amr:=?hB
 let e2:?b79 es (es[j]'(?JP l2 (?r7 l4 h2'))):=?hB
 have#[v,ev,rd]:=?pB e1;have#[w,ew,re]:=r'.get e2;have#[u,eu,ru]:=?o2 ev;have#[u',eu',ru']:=QG.get ew
 let f1:?aMA=u:=by
  let:?BO=?i us[j]:=?G
  rw[eu]at this;let:=?a3D;ext he
 let f2:?af5=u':=by
  let:?b79 us' (us'[j]):=?G
  rw[eu']at this;let:=?a3D;ext he
 rw[f1,f2,e1,e2];let hm:?amr∈ds:=?ji;show(ih _ hm A v w u u' _ (by let:=hdm _ hm;ext d) rd re ru ru').2
def Vk:∀[?hl]{d:D},d∈ds->?am2| ?a57,d,h=>by simp only[deps];rcases ?rT with rfl | h;{ext d};let:=Vk h;ext d
def Vb{a b:?fG}(h:¬?DF):?awB ?t4:=by cases q:?t4 with| false=>rfl| true=>show ?X (?aj7 q) h
mutual
def YG[?B](d:D):?akh:=by
 intro A x y u v e hu hx hy rx ry;cases d with
 | non =>
   cases (show x=.non from hx);cases (show u=Value.none from rx);cases e with
   | non=>ext to;show#[?ae1,?WO]
   | bl b=>ext tm;show#[?Y5,?Y5]
   | int i=>ext tw;ext iz;show#[?a2n,?a2n]
   | str z=>ext ty;ext iz;show#[?a4x,?a4x]
   | tup es=>ext mW;ext mQ;show#[?a0N,?a0N]
   | lst es=>ext mW;ext mR;show#[?PX,?PX]
 | bl c =>
   cases (show x=.bl c from hx);cases (show u=Value.bool c from rx);cases e with
   | non=>ext to;show#[?VE,?VE]
   | bl b=>ext tm;show#[?TJ,?TJ]
   | int i=>ext tw;ext iz;show#[?SC,?SC]
   | str z=>ext ty;ext iz;show#[?U5,?U5]
   | tup es=>ext mW;ext mQ;show#[?ZS,?ZS]
   | lst es=>ext mW;ext mR;show#[?Yv,?Yv]
 | int c =>
   cases (show x=.int c from hx);let#[t,rfl]:=rx;cases e with
   | non=>ext to;show#[?Ta,?Ta]
   | bl b=>ext tm;show#[?Ns,?Ns]
   | int i=>ext tw;ext aY;show#[?a37,?a37]
   | str z=>ext ty;ext aY;show#[?So,?So]
   | tup es=>ext mW;ext mQ;show#[?Va,?Va]
   | lst es=>ext mW;ext mR;show#[?a3l,?a3l]
 | str c =>
   cases (show x=.str c from hx);let#[t,rfl]:=rx;cases e with
   | non=>ext to;show#[?OF,?OF]
   | bl b=>ext tm;show#[?N1,?N1]
   | int i=>ext tw;ext aY;show#[?T0,?T0]
   | str z=>ext ty;ext aY;show#[?a3o,?a3o]
   | tup es=>ext mW;ext mQ;show#[?Pk,?Pk]
   | lst es=>ext mW;ext mR;show#[?a2E,?a2E]
 | tup ds =>
   ext ar6;let ?rR:=?eE q;ext apG
   cases e with
   | non=>ext to;show#[?Oy,?Oy]
   | bl b=>ext tm;show#[?a3v,?a3v]
   | int i=>ext tw;ext aY;show#[?a13,?a13]
   | str z=>ext ty;ext aY;show#[?QT,?QT]
   | lst es=>ext LR;let ?BS:=?Jz;show#[?Ue,?Ue]
   | tup es =>
     let hy':=hy;ext LR;let ?Ks:=?FP
     let main:?ayd (eqD ?ov (?b5 es)):=by
      let:=RcAt.tuples (A:=A) p p' ?g ?aHI;ext L5
      ext LA
      rw[e1,e2]at this;ext a5o
      . rw[?Hv];rw[←hl,qz5]at this;ext he
      . ext apY
        rw[z,Bool.and_false]at this;show this
     apply ?aPa;cases hab:a=b
     . subst hab;let e3:D.tup ds=D.tup es:=?aQm;rw[e3,Uo];show ?WO
     . show ?aSK
 | lst ds =>
   ext ar6;let ?rR:=?fZ q;ext apG
   cases e with
   | non=>ext to;show#[?a1I,?a1I]
   | bl b=>ext tm;show#[?a0Z,?a0Z]
   | int i=>ext tw;ext aY;show#[?To,?To]
   | str z=>ext ty;ext aY;show#[?W8,?W8]
   | tup es=>ext LR;let ?BS:=?FP;show#[?a3t,?a3t]
   | lst es =>
     let hy':=hy;ext LR;let ?Ks:=?Jz
     let main:?ayd (eqD ?x9 (?U es)):=by
      ext L5
      ext LA
      ext a5o
      . let:=RcAt.lists (A:=A) ?cf ?yS ?g ?g ?aHI;rw[e1]at this;rw[?Hv];show this
      . rw[Vb hl];show RcAt.lists_lengths ?cf ?yS ?aks ?g
     apply ?aPa;cases hab:a=b
     . subst hab;let e3:D.lst ds=D.lst es:=?aQm;rw[e3,Uo];show ?WO
     . show ?aSK
 def eqDs_ok[?B][?B2]:?aIy:=by
 cases ds with
 | nil=>show λ_ h=>?Fz
 | cons d0 r =>
   intro d h;rcases ?rT with e | h
   . show e▸YG I d0
   . show eqDs_ok I r d h
end
universe e9
universe L2
namespace L2
open PySem PySem.Spec PyProof.Rows PySem.SeqAt
section
variable{X:Cx}
abbrev eqF(X:Cx)(H:Hp)(d:D)[?j8]:Bool:=@decide (∃v e,?hK/\?Pw/\?auy ?Fi) ?Bj
def OZ[?aR][?B]{d e:D}{v:V}[?bc][?mh](h:?Pw):eqF X H d u=?Fi:=by cases q:?Fi with| true=>show @qf0 _ ?Bj #[v,e,r,h,q]| false =>apply @qj6 _ ?Bj ?_;rintro ⟨v',e',r',h',q'⟩;let:=?Fq;ext er;rw[?a04 I h h']at q;rw[q]at q';cases q'
def pA[?aR][?B][?dT]{x:V}[?pq]{d:D}[?aV][?bs][?hl](hu:?aVg)(hx:?PE)(rx:?lp) (r:?yF) (rv:?oa):∀y,y∈us.toArray->EqAt A s y v (eqF X H d y):=by intro y hy;(let hy':y∈us:=?aN6);let ?xk:=qi1 hy';let hlt:i<us.length:=?nC;let l1:=rv.length;obtain⟨w,hw⟩:∃w,?Dq=?tE:=#[?b6u vs,?hB];let#[u,hu2,ru]:=?o2 hw;rw[hi]at hu2;cases hu2;let#[e,he,re]:=r.getV hw;rw[OZ I ru re];let hm:e∈ds:=qa9 he;show(YG I e A w x y v d (by let:=Vk hm;ext d) re hx ru rx).2
def RW[?aR][?B]{d:D}:∀[?aV][?bs][?hl],?yF->?oa->us.any ?yZ=?Fw| vs,us,[],r,rv=>by cases (?au1 ?H5);cases rv;rfl| vs,us,e::ds,r,rv=>by let#[v,q,?h,?Q]:=r;cases rv with| cons r1 r2=>rw[qp8,qp8,OZ I r1 h1,RW I h2 r2]
abbrev Bt1[?n](H:Hp)(y:V)[?B2]:Prop:=?ash y ?x9\/?ash y ?ov
inductive Ar9[?n](n:Nat)(neg:Bool)[?en]:Prop| mk:∀d ds,?qJ->(Bt1 K H y ds)->?afX->(?b41 (if neg then ! ?Fw else ?Fw))->?aLD
abbrev Bh5[?n](n:Nat)(neg:Bool):R2:=?at0 ?aLD
def tQ{n:Nat}[?mY]:?b0e ?a7:=by ext gT;let#[d,ds,hx,hs,hn,q]:=h;let fin:∀[?bs][?aV],?yF->?oa->?atl (?ed (!us.toArray.any ?yZ)) s:=λr rv =>#[.bl (! ?Fw),H,I,by exact ?nh _=?nh _;rw[List.any_toArray,RW I r rv],q];rcases hs with⟨a,vs,rfl,hq,r⟩|⟨a,vs,rfl,hq,r⟩;{cases ry;let ?rR:=?gI;show notIn_listAt ?yZ ?cf ?aHY ?aId};cases ry;let ?rR:=?oT;show notIn_tupleAt ?yZ p ?aHY ?aId
inductive SH[?n](n:Nat)(x:V)[?ch][?dS]:Prop| mk:∀ds y d j,?ahA->(?ash x ?x9)->(?ash y d)->?afX->(ds.findIdx? ?aGX=?gk)->(Q ?aQh H)->?aOQ
abbrev wH[?n](n:Nat):?rN:=?ayU ?aOQ
def XE{n:Nat}[?mY]:?b2c ?a7:=by ext LM;have#[ds,y,d,j,?h,#[a,ws,?gf,r],hy,hn,hj,q]:=h;cases rx;ext ha;let ?tC:=rv.one;let#[its,rw',p,hz]:=?gI;let l1:=r.length;let l2:=rw'.length;let#[hlt,hit,hno]:=List.findIdx?_eq_some_iff_getElem.mp hj;(let at':∀m (hm:m<its.toArray.size) (hm':m<ds.length),eqF X H d ?aZe=eqD ds[m] d:=λm hm hm'=>by let#[w,hw,re]:=?pB (i:=m) (d:=ds[m]) ?G;let#[u',hu',ru']:=rw'.get hw;(let e1:?aZe=u':=by (let hm2:m<its.length:=by simpa using hm);(let:its[m]?=?i its[m]:=?G);rw[hu']at this;let:=?a3D;ext he);rw[e1];show OZ I ru' re);let#[o,k,ho,hc,hdn,hd]:=id p;let ?a45:=o;ext hn;simp only at hc hdn hd;subst hc hdn hd;let hsz:?asp ds.length:=?nI l1 hz;(let big:?Ur<?h8:=?afL);apply ?oj PySem.F.slot_list_index ?wf PySem.F.entry_list_index (PySem.F.args_list_index_2 _ _) (list_indexAt a ?bO k ?aO sl u ?yZ j ?a9N ?g ?_ ?_) #[ho,?b1S hy ru rw',?_];{rw[at' j ?a9N hlt];show hit};{intro m hm hmj;rw[at' m hm (qd8 hmj hlt)];let:=hno m hmj;simpa using this};show#[?aQh,?pn,q]
inductive Ar5[?n](n:Nat)[?en]:Prop| mk:∀d e,?qJ->(?ash y e)->(?K1<=n)->(Q ?adY H)->?aWv
abbrev Bh2[?n](n:Nat):R2:=?at0 ?aWv
def Aw6{n:Nat}[?mY]:?b28 (Bh2 ?a7 n):=by
 ext gT;let#[d,e,hd,he,hn,q]:=h;let fin:?atl (?ed ?UM) s:=#[?adY,?fo,q]
 let go:∀{k:Bool},RcNeAt ?a4 s v u k->k=?UM->?asI (?h9 ?SG v u) ?g9:=λh1 h2=>by
  subst h2;show h1 ?bU X.w ?aQ _ fin
 cases d with
 | non =>
   cases (show x=.non from hd);cases (show v=Value.none from rx);cases e with
   | non=>ext tn;show ?atk ?ae1
   | bl b=>ext tl;show ?atk ?Y5
   | int i=>ext tv;ext iz;show ?atk ?a2n
   | str z=>ext tx;ext iz;show ?atk ?a4x
   | tup es=>ext mV;ext mQ;show ?atk ?a0N
   | lst es=>ext mV;ext mR;show ?atk ?PX
 | bl c =>
   cases (show x=.bl c from hd);cases (show v=Value.bool c from rx);cases e with
   | non=>ext tn;show ?atk ?VE
   | bl b=>ext tl;show ?atk ?TJ
   | int i=>ext tv;ext iz;show ?atk ?SC
   | str z=>ext tx;ext iz;show ?atk ?U5
   | tup es=>ext mV;ext mQ;show ?atk ?ZS
   | lst es=>ext mV;ext mR;show ?atk ?Yv
 | int c =>
   cases (show x=.int c from hd);let#[t,rfl]:=rx;cases e with
   | non=>ext tn;show ?atk ?Ta
   | bl b=>ext tl;show ?atk ?Ns
   | int i=>ext tv;ext aY;show ?atk ?a37
   | str z=>ext tx;ext aY;show ?atk ?So
   | tup es=>ext mV;ext mQ;show ?atk ?Va
   | lst es=>ext mV;ext mR;show ?atk ?a3l
 | str c =>
   cases (show x=.str c from hd);let#[t,rfl]:=rx;cases e with
   | non=>ext tn;show ?atk ?OF
   | bl b=>ext tl;show ?atk ?N1
   | int i=>ext tv;ext aY;show ?atk ?T0
   | str z=>ext tx;ext aY;show ?atk ?a3o
   | tup es=>ext mV;ext mQ;show ?atk ?Pk
   | lst es=>ext mV;ext mR;show ?atk ?a2E
 | tup ds =>
   let ?a9r:=hd;cases rx;let ?rR:=?eE q1;ext apX
   cases e with
   | non=>ext tn;show ?atk ?Oy
   | bl b=>ext tl;show ?atk ?a3v
   | int i=>ext tv;ext aY;show ?atk ?a13
   | str z=>ext tx;ext aY;show ?atk ?QT
   | lst es=>ext LQ;let ?BS:=?Jz;show ?atk ?Ue
   | tup es =>
     ext LQ;let ?Ks:=?FP;apply go (RcNeAt.tuples p p' ?g ?aRu) ?_;ext L5
     ext LA
     rw[e1,e2];ext a5o
     . rw[?Hv,←hl,qz5];simp
     . ext apY
       rw[z,Bool.and_false]
 | lst ds =>
   let ?a9r:=hd;cases rx;let ?rR:=?fZ q1;ext apX
   cases e with
   | non=>ext tn;show ?atk ?a1I
   | bl b=>ext tl;show ?atk ?a0Z
   | int i=>ext tv;ext aY;show ?atk ?To
   | str z=>ext tx;ext aY;show ?atk ?W8
   | tup es=>ext LQ;let ?BS:=?FP;show ?atk ?a3t
   | lst es =>
     ext LQ;let ?Ks:=?Jz;ext L5
     ext LA
     cases hl:?aPL
     . apply go (RcNeAt.lists ?cf ?yS ?g ?g ?aRu) ?_;rw[e1];ext uG;rw[?Hv]
     . apply go (RcNeAt.lists_lengths ?cf ?yS ?aks ?g) ?_;ext uG;rw[Vb hl];rfl
abbrev QX(n:String):?Rw| ?as=>false| ?mH=>n==?id || n==?t6| ?ja=>n==?id| ?gq=>n==?w2| ?b5 _=>n==?iP| ?FH=>n==?eH
abbrev tyD:D->String| ?as=>"NoneType"| ?mH=>?t6| ?ja=>?id| ?gq=>?w2| ?b5 _=>?iP| ?FH=>?eH
def A09[?E]{n:String}{d:D}(hn:?YR):PySem.W.kitOne K (?cV (tyD d)) ?Z0=?i ?Nz:=by rcases hn with rfl | rfl | rfl | rfl | rfl | rfl<;>cases d<;>(unfold PySem.W.kitOne PySem.W.kitCls PySem.W.subIn tyD QX;first | rfl | ext c4)
def ML:?asW ?qo (∃x n d,?aHB/\?YR/\?PE/\?aI3):=by ext el;let#[x,n,d,?h,hn,hx,q]:=h;let ?a54:=bM r;cases rt;let k:=A09 (K:=X.K) (d:=d) hn;let fin:∀tk,?atl (?ed ?Nz) ({ s with toks:=tk }):=λtk=>#[?an2,H,I.tok tk,?h,q];cases d with| non=>cases (?awy ?as);cases (show ?CB from rx);show ?atj PySem.W.kitx_none ?zO| bl b=>cases (?awy ?fy);cases (show ?Ky from rx);show ?atj PySem.W.kitx_bool ?zO| int b=>cases (?awy ?lN);ext pb;show ?atj PySem.W.kitx_int ?zO| str b=>cases (?awy (?f8 b));ext pb;show ?atj PySem.W.kitx_str ?zO| tup ds =>let ?aOt:=hx;cases rx;let(?b3Y #[o,e,c,_]):=?oT;show ?atj PySem.W.kitx_tuple ?ads| lst ds =>let ?aOt:=hx;cases rx;let(?b3Y #[o,_,e,c,_]):=?gI;show ?atj PySem.W.kitx_list ?ads
inductive zB[?n][?en]:Prop| mk:?b8q (?aIN->?b5D ?JR ?a7m)
abbrev Al7[?n]:R2:=?at0 ?a7m
def Ac4:?ax4 Al7 ?a7:=by ext gT;let#[a,b,xs,ys,?V,ha,hb,hz,q]:=h;cases hx:xs=[];{subst hx;cases rx;cases ry;let ?Ya:=?eE ha;let ?Ps:=?eE hb;cases r1;let ?a8I:=id p1;let ?aTK:=id p2;simp only at hc hd hc2 hd2;subst hc hd hc2 hd2;show ?auR (tuple_addW0 a b _ _ n n2 dd dd2 sl sl2 ?G) #[ho,ho2,#[?bT,?fo,q b H ?aGK ?e1]]};apply Ac5 Ae s σ H ?R ?bT v u Q I rx ry (?b2y (λe=>?_) (λe p hp=>?_));{subst e;show q a H ?aGK ?aa2};show ?ae5
inductive YZ[?n][?a61][?dS]:Prop| mk:∀a xs,?d4->?fO->?aaC->?b5D ?CG ?aWw
abbrev Al5[?n]:?xi:=?ayz ?aWw
def ZX:?b1Y Al5:=by ext a5c;let ?aEc:=h;show Au6 Ae s σ H ?R v vl vu lo hi sl Q I rx hs pl pu #[a,xs,?h,hx,hw,?awc ?ae5]
inductive sJ[?n][?en]:Prop| mk:∀l b xs zs,?zf->?nq->(?asu l xs)->(?asu b zs)->?b4n (?asp (xs.length+zs.length)) (?U (xs++zs)) ?aff
abbrev WH[?n]:R2:=?at0 ?aff
def WR:?ax4 WH ?a7:=by ext gT;have#[l,b,xs,zs,?V,hl,hb,hz,q]:=h;cases rx;cases ry;have ?Ya:=?fZ hl;have ?Ps:=?fZ hb;have#[?a45,n,ho,hc,hdd,hd]:=id p1;have#[?aRe,n2,ho2,hc2,hdd2,hd2]:=id p2;ext aqc;apply ?GY ?wf ?J4 noFill_list_add seq_list_add PySem.F.slot_list_add PySem.F.entry_list_add (PySem.F.args_list_add_2 _ _) (list_addW l b ?bO its2.toArray n n2 dd dd2 sl sl2 (by rw[qd4,qd4,←r1.length,←r2.length];show hz)) ?aJi;rw[show its.toArray++its2.toArray=(its++its2).toArray by simp];show(?b0Q ?bV ?aKF ?aTW)
def uX[?dp]:?asW ?a0c (∃(p:Addr) (bs:?B5),?fC/\?aLn/\?ajb):=by ext anv;apply call_all_walk ?a3T;apply#[?a6q,?aTJ,?a76,?abu];ext aoF;(let e:(?dz ?yr).all ?aTJ=?aGN:=by ext LX;rw[qd4,←l1];rw[qq7,qe3,qe3];constructor;{intro hx b hb;let ?xk:=?Pu;let:=hx i ?aO7;rw[hi]at this;show this};intro hx i hi;let hlt:=?gy;(let hb:?xU=?i bs[i]:=?G);rw[hb];show hx _ ?ji);rw[e];ext a5J;show#[?aLU,H,I1,?h,q]
universe e9
structure Has[?hb][?n][?mT](x:Str)[?Li]:Prop where
 ex:∃(f:Addr) (fd:FuncData),mg x=?OC/\?vi/\?Ct
section
variable{X:Cx}[?a5j][?dR]{t:TA}
def Ai(h:?azO Has x)[?kZ][?hc][?arh][?LZ][?tk] (hpl:?W (?k9 (·.1)=false) ?aJ):?au2 ?w9 ?aLb:=by have#[f,fd,?Q,?eM]:=h.ex;show Ac1 h4 ?xL hg h1 h2 h3 ?aH LA ha hdb he hpl
universe e9
def boot_intT:?awQ ?id ?aQ4:=?cX
def DW:?awQ ?t6 (?cV ?t6):=?cX
def F9:?awQ ?iP ?cU:=?cX
def D7:?awQ ?eH ?e7:=?cX
def Fw:?awQ ?lJ ?r0:=?cX
def HE:?awQ "max" ?ad3:=?cX
def UY:?awQ "min" ?aaE:=?cX
def Vl:?awQ "all" ?a0c:=?cX
def Br:?awQ ?a84 ?qo:=?cX
universe L2
namespace L2
open PySem PySem.Spec PyProof.Rows
section
variable{X:Cx}[?E]{tg l:Expr}{tl:TE}{n:Nat}
def Fz.imp{X:Cx}{f:Value}{r r':?f4}(h:Fz X f r)(i:∀xs H Q,r' xs H Q->?a9a):Fz X f r':=λAe s σ H xs us Q I v q=>h Ae s σ H xs us Q I v (i xs H Q q)
inductive ZA[?n][?c5][?dS]:Prop| mk:?b7x ?aXL ?aMs
abbrev Bh3[?n]:?f4:=?b4C ?aMs
inductive mT[?n][?c5][?dS]:Prop| mk:?b7x ?aAU ?aPN
abbrev Aa2[?n]:?f4:=?b4C ?aPN
inductive SE[?n][?c5][?dS]:Prop| mk:∀p ys,?fC->((?b8K ?aNb ?aKp))->?aBW
abbrev Av3[?n]:?f4:=?b4C ?aBW
inductive MT[?n][?c5][?dS]:Prop| mk:∀x n d,?aHB->?YR->?qJ->?aI3->?aCk
abbrev Aa3[?n]:?f4:=?b4C ?aCk
inductive ZC[?n][?c5][?dS]:Prop| mk:∀(p:Addr) (bs:?B5),?fC->?aT8->?ajb->?afd
abbrev Bh7[?n]:?f4:=?b4C ?afd
def Uc[?bJ]:?ax4 Al7 K:=by subst hK;show Ac4
def Fi[?bJ]:?ax4 WH K:=by subst hK;show WR
def Qb[?bJ]:SlR X (Al5 K):=by subst hK;show ZX
def Fa[?bJ]:SlR X (Bh0 K):=by subst hK;show zY
def Aw[?bJ]:IxR X (Bh4 K):=by subst hK;show Ae7
def Bb[?bJ]:IxR X ?aTm:=by subst hK;show A24
def Ao[?bJ]:?b0j ?Gl Bh3:=?b5c JN
def Gj[?bJ]:?b0j ?e7 Aa2:=?b5c jN
def G0[?bJ]:?b0j ?cU Av3:=?b5d FA ?aAf ?aAf
def Fn[?bJ]:?b0j ?qo Aa3:=?b5d ML ?ajx ?ajx
def Rn[?dp][?bJ]:?b0j ?a0c Bh7:=by subst hK;show(uX hc).imp (?auB ?aHa ?aHa)
def Nn[?mY][?bJ]:?b0e K:=?atS tQ hu
def qV[?mY][?bJ]:?b28 (Bh2 K n):=?atS Aw6 hu
def TZ[?mY][?bJ]:?b2c K:=?atS XE hu
def Bt[?Mb][?bJ]:?ax5 Ao8 K:=?atS Ab4 hl
def Rm[?Mb][?bJ]:?ax5 Bl2 K:=?atS Aw1 hl
variable{o e:Expr}[?dR][?apN]
def Iv[?aoc][?hc][?bJ] [?anz] (hplain:?W (?O1 (·.1)=false) ?aJ) : ?au2 ?aAd (tBM K T r to t):=by subst hK;show Bi0 pa slot hty hm ho ha hbase hfew hline hs hplain
def Eb[?dR]{k:Nat}{t:ZO}{n:Nat}[?bX][?dp](h:?a8l)[?bJ] [?aqD] (hst:?W (?aRk (·.1)=none) ?aJ):?b1Z K:=by subst hK;show Aw2 hc h hn hst
universe e9
universe L2
namespace Hb
abbrev Ay[?hh][?kg]:LLInt :=if ?vU then(if w.length<2 then [] else ?b1p w.length (w.take i++?a48 ?k)) else if ?agG then [] else if ?hu then(if ?aU9 then [[],[]] else w.map λl=>[l]) else ?a48 1::(?b1p ?Qa (w.take i++[(w.getD i 0+w.getD ?k 0)%fam]++?a48 (i+2)))++[w.take ?Qa]
abbrev Gr[?kg][?hh]:Prop :=(?vU/\1<=w.length/\w.length<=4)\/(?hu/\(?agG\/?aU9\/?aY2))\/(?sx/\w.length<=3)
abbrev lv[?kg][?hh]:Nat:=if ?vU then ?Qa else if ?hu then(if ?aY2 then 2 else w.length) else w.length
def W3[?pp][?pl](h:?dC) : (?vU/\(?VK\/?a8n\/?YP\/∃a b c d,w=?yg)) ∨ (?hu/\(w=[]\/?VK\/?YP)) ∨ (?sx/\(w=[]\/?VK\/?a8n\/?YP)):=by rcases h with⟨h0,h1,h2⟩|⟨h0,h1⟩|⟨h0,h1⟩;{left;apply ?Om;match w,h1,h2 with| [a],_,_=>show ?OA| ?e4,_,_=>show ?a9n| ?fs,_,_=>show ?awn (?x ?Iy)| ?yg,_,_=>show ?awn (?y ?TX)| _::?UB,_,h=>simp at h};{right;left;apply ?Om;match w,h1 with| [],_=>show ?cB| [a],_=>show ?y ?OA| ?e4,h=>simp at h| ?fs,_=>show ?aNK| ?UB,h=>simp at h};right;right;apply ?Om;match w,h1 with| [],_=>show ?cB| [a],_=>show ?y ?OA| ?e4,_=>show ?y ?a9n| ?fs,_=>show ?y ?aNK| ?UB,h=>simp at h
def Bq8(a:Int):Ay [a] 0=[]:=rfl
def Bq7[?mm]:Ay ?e4 0=[[b],[a]]:=rfl
def A62(a b c:Int):Ay ?fs 0=[?wY,[a,c],?e4]:=rfl
def A61[?kY]:Ay ?yg 0=[[b,c,d],[a,c,d],[a,b,d],?fs]:=rfl
section
variable[?pp]
def Bq6(h:?hu):?aye []=[]:=?acH
def yE(h:?hu)(a:Int):?b8c a:=by unfold Ay;rw[?z,?r6,?b3,?SV]
def A58(h:?hu)(a b c:Int):?al7=[[a],[b],[c]]:=by unfold Ay;rw[?z,?r6,?b3,?r6];rfl
def Bq4(h:?sx):?aye []=[]:=?acH
def YC(h:?sx)(a:Int):?b8c a:=?a4j
def JG(h:?sx)[?mm]:?aye ?e4=[[b],[?jB%fam],[a]]:=?a4j
def A57(h:?sx)(a b c:Int):?al7=[?wY,[?jB%fam,c],[a,(b+c)%fam],?e4]:=?a4j
def Ry{w f:?O}(h:?dC)(hf:f∈?ck):Gr fam f/\lv fam f+1=?q9:=by ext a5F;{subst h0;rw[Bq8]at hf;show ?YB};{subst h0;rw[Bq7]at hf;simp only[qe4,qj8,or_false]at hf;rcases hf with rfl | rfl<;>simp[Gr,lv]};{subst h0;rw[A62]at hf;simp only[qe4,qj8,or_false]at hf;rcases hf with rfl | rfl | rfl<;>simp[Gr,lv]};{subst h0;rw[A61]at hf;simp only[qe4,qj8,or_false]at hf;rcases hf with rfl | rfl | rfl | rfl<;>simp[Gr,lv]};{rw[Bq6 h0]at hf;show ?YB};{rw[?wp]at hf;simp only[qe4,qj8,or_false,or_self]at hf;subst hf;let e:?wk:=?g;simp[Gr,lv,h0,e]};{rw[?a3F]at hf;let e:?wk:=?g;simp only[qe4,qj8,or_false]at hf;rcases hf with rfl | rfl | rfl<;>simp[Gr,lv,h0,e]};{rw[Bq4 h0]at hf;show ?YB};{rw[?vS]at hf;let e:?wk:=?g;let e':¬?hu:=?g;simp only[qe4,qj8,or_false,or_self]at hf;subst hf;simp[Gr,lv,h0,e,e']};{rw[?qi]at hf;let e:?wk:=?g;let e':¬?hu:=?g;simp only[qe4,qj8,or_false]at hf;rcases hf with rfl | rfl | rfl<;>simp[Gr,lv,h0,e,e']};rw[?a3y]at hf;ext a6W;ext a6R;simp only[qe4,qj8,or_false]at hf;rcases hf with rfl | rfl | rfl | rfl<;>simp[Gr,lv,h0,e,e']
def M0[?pl](h:?dC):?aVF=(if ?Iw then 0 else ?q9+1)/\?q9<=3:=by ext a5F;{subst h0;simp[Bq8,lv]};{subst h0;simp[Bq7,lv]};{subst h0;simp[A62,lv]};{subst h0;simp[A61,lv]};(all_goals ext a6W);{simp[Bq6 h0,lv,e,h0]};{simp[?wp,lv,e,h0]};{simp[?a3F,lv,e,h0]};(all_goals ext a6R);{simp[Bq4 h0,lv,e,e']};{simp[?vS,lv,e,e']};{simp[?qi,lv,e,e']};simp[?a3y,lv,e,e']
def BP[?fn](h:?co)(hj:j<3):?aQN :=?ayD 3 ?aQN
def RE[?fn](h:?co)(hj:j<4):?aAh :=?ayD 4 ?aAh
def faces_agree{w f g:?O}[?fn](h:?dC)(hl:2<=?q9)(hij:?co)(hf:?b79 ?ck f)(hg:?avL ?ck g):?aJt[i]?=(?aye g)[?eF]?:=by let hj:j<?aVF:=(?bi hf).1;ext a5F;{subst h0;simp[lv]at hl};{subst h0;simp[lv]at hl};{subst h0;rw[A62]at hf hg hj;let hc:=?Nb;rcases hc with⟨rfl,rfl⟩|⟨rfl,rfl⟩|⟨rfl,rfl⟩;{obtain rfl:=?cs;obtain rfl:=?cm;rfl};{obtain rfl:=?cs;obtain rfl:=?cm;rfl};obtain rfl:=?cs;obtain rfl:=?cm;rfl};{subst h0;rw[A61]at hf hg hj;let hc:=?a9Y;rcases hc with⟨rfl,rfl⟩|⟨rfl,rfl⟩|⟨rfl,rfl⟩|⟨rfl,rfl⟩|⟨rfl,rfl⟩|⟨rfl,rfl⟩;{obtain rfl:=?cs;obtain rfl:=?cm;rfl};{obtain rfl:=?cs;obtain rfl:=?cm;rfl};{obtain rfl:=?cs;obtain rfl:=?cm;rfl};{obtain rfl:=?cs;obtain rfl:=?cm;rfl};{obtain rfl:=?cs;obtain rfl:=?cm;rfl};obtain rfl:=?cs;obtain rfl:=?cm;rfl};(all_goals ext a6W);{simp[lv,e,h0]at hl};{simp[lv,e,h0]at hl};{rw[?a3F]at hf hg hj;let hc:=?Nb;rcases hc with⟨rfl,rfl⟩|⟨rfl,rfl⟩|⟨rfl,rfl⟩;{obtain rfl:=?cs;obtain rfl:=?cm;simp[?wp]};{obtain rfl:=?cs;obtain rfl:=?cm;simp[?wp]};obtain rfl:=?cs;obtain rfl:=?cm;simp[?wp]};(all_goals ext a6R);{simp[lv,e,e']at hl};{simp[lv,e,e']at hl};{rw[?qi]at hf hg hj;let hc:=?Nb;rcases hc with⟨rfl,rfl⟩|⟨rfl,rfl⟩|⟨rfl,rfl⟩;{obtain rfl:=?cs;obtain rfl:=?cm;simp[?vS]};{obtain rfl:=?cs;obtain rfl:=?cm;simp[?vS]};obtain rfl:=?cs;obtain rfl:=?cm;simp[?vS]};rw[?a3y]at hf hg hj;let hc:=?a9Y;rcases hc with⟨rfl,rfl⟩|⟨rfl,rfl⟩|⟨rfl,rfl⟩|⟨rfl,rfl⟩|⟨rfl,rfl⟩|⟨rfl,rfl⟩;ext LB;ext LB;ext LB;{skip;obtain rfl:=?cs;obtain rfl:=?cm;simp only[?qi,List.getElem?_cons_succ,qy0,Nat.add_one_sub_one];congr 2;rw[Int.add_emod_emod,Int.emod_add_emod,ql9]};ext LB;obtain rfl:=?cs;obtain rfl:=?cm;simp[?qi]
universe e9
abbrev lev[?pk]:Nat:=?Im
structure eG[?N][?pk]:Prop where
 cnt:?akO
 low:∀f∈p,?il
 bel:∀f∈p,∃q,?a0z/\?aez
 agr:?aTy->∀[?dU] (f g:Int) (q r:?O),?co->?JC=?i f->?H0=?i g->?a0z->?b3E g.toNat=?i r->q[i]?=r[?eF]?
abbrev Bi[?N]:Prop:=∀(k:Nat) [?pk],?Sc=?kJ->eG ?EM p
abbrev sD[?kg][?j5]:Prop:=∀(k:Nat) [?hh],ws[k]?=?tE->?dC/\∀f∈?ck,f∈ws.take k
def sD.nil[?pp]:sD fam []:=λk w h=>?gL
def sD.snoc[?pp][?j6][?pl][?Ml](hw:?dC)(hf:?PM):sD fam ?a3Q:=by intro k v hk;cases hlt:k<ws.length;{rw[?CF]at hk;rw[?UA];show h k v hk};let hk':?b3Z k ?a3Q:=?acN;(let e:k=ws.length:=?amO);ext aqY;show#[hw,hf]
def sD.mem[?pp][?j6][?Ml][?pl](hw:w∈ws):?dC/\?PM:=by let ?a0k:=qi1 hw;let ?cR:=h k w hk;show#[h1,?axY (qn4 ?KS)]
abbrev Gd[?j5]:?ajq| []=>ws| ?p7=>Gd ?a2g r
def ED:∀(rows ws:LLInt),?asa ?yQ (ws.length+rows.length)| [],ws=>by simp[Gd]| ?p7,ws=>by let h1:=ED r ?a2g;(let h2:?asa ?a2g (ws.length+1):=by split;{ext d};simp);simp only[Gd,qd5];ext d
def EC[?pp]:∀(rows ws:LLInt),?aET->(?atM rows (f∈rows.take k))->sD fam ?yQ| [],ws,h,_=>h| ?p7,ws,h,hr=>by let h0:=hr 0 w ?h;let hw:?PM:=?axY ((h0.2 f hf).resolve_right ?G);simp only[Gd];apply EC r _ ?_ λk v hk=>?_;{split;{show h};show h.snoc h0.1 hw};let ?cR:=hr ?F v ?E7;apply ?aH9;rcases ?KS with z | z;{left;split;{show z};show ?aKt};rw[List.take_succ_cons]at z;rcases ?iS z with z | z;{left;subst z;split;{assumption};simp};show ?NQ
abbrev D8[?j5]:?Mw| acc,[]=>acc| acc,f::r=>D8 ws ?a27 r
def EA[?j6][?uQ]:∀[?An],?Zy->?zQ\/x∈fs| [],acc,h=>?ju| f::r,acc,h=>by rcases EA r _ h with z | z;{split at z;{rcases ?a0j z with z | z;{show ?ne};show ?y (by simp at z;simp[z])};show ?ne};show ?y (?ay1 z)
def Uz[?j6][?uQ]:∀[?An],?zQ->?Zy| [],acc,h=>h| f::r,acc,h=>Uz r _ (by split;show qr5 _ h;show h)
def EB[?j6][?uQ]:∀[?An],x∈fs->?a1G\/?Zy| f::r,acc,h=>by ext a6S;{subst e;cases h1:?a1G;{show ?x h1};right;apply Uz r _ ?_;cases h2:?zQ;{rw[?s ?aGD];show h2};rw[?A ?cR];simp};show EB r _ e
def X3[?j6]:∀[?An],?asa ?vg (?b5z fs.length)| [],acc=>by simp[D8]| f::r,acc=>by let h1:=X3 (ws:=ws) r ?a27;(let h2:?asa ?a27 (?b5z 1):=by split;{simp};ext d);simp only[D8,qd5];ext d
abbrev below[?j5][?kg]:?Mw| acc,[]=>acc| acc,?p7=>?ayA ?a7O r
def Vn[?mZ][?uQ]:∀[?Aw],?SJ->?zQ\/∃w∈l,x∈?ck| [],acc,h=>?ju| ?p7,acc,h=>by rcases Vn r _ h with z|⟨v,hv,z⟩;{rcases EA _ _ z with z | z;{show ?ne};show ?y #[w,qb9,z]};show ?y #[v,?anW,z]
def dZ[?mZ][?uQ]:∀[?Aw],?zQ->?SJ| [],acc,h=>h| ?p7,acc,h=>dZ r _ (Uz _ _ h)
def HN[?mZ]{x w:?O}:∀[?Aw],w∈l->x∈?ck->?a1G\/?SJ| v::r,acc,h,hx=>by ext a6S;{subst e;rcases EB (ws:=ws) _ acc hx with z | z;{show ?ne};show ?y (dZ r _ z)};show HN r _ e hx
def Qq[?mZ]:∀[?Aw],(∀w∈l,?dC)->?asa ?OH (?b5z ?ak0)| [],acc,_=>by simp[below]| ?p7,acc,h=>by let h1:=Qq (ws:=ws) r ?a7O λv hv=>h v ?anW;let h2:=X3 (ws:=ws) ?ck acc;let h3:=M0 (h w qb9);simp only[below,qd5];split at h3<;>ext d
def aO[?j5](f:?O):∀[?An],D8 ws acc (fs++[f])=(if ?al8/\f ∉ ?vg then ?vg++[f] else ?vg)| [],acc=>rfl| g::fs,acc=>aO ws f fs _
def DY[?j5][?kg][?hh]:∀[?Aw],?ayA acc (l++[w])=D8 ws ?OH ?ck| [],acc=>rfl| v::l,acc=>DY ws fam w l _
def AO[?hh]:∀(rows ws:LLInt),Gd ws (rows++[w])=(if w∈?yQ then ?yQ else ?yQ++[w])| [],ws=>rfl| v::rows,ws=>AO w rows _
abbrev Rk[?j5][?kg]:?ayu ?Mw| 0,layer,rows=>rows| ?r,layer,rows=>Rk ws fam n (?ayA [] layer) (layer++rows)
def GC[?mZ]:∀(n:Nat) (layer rows:LLInt),(∀w∈layer,?dC/\?q9<n) → (?atM rows (f∈layer\/f∈rows.take k)) → ?atM ?afs (f∈(?afs).take k)| 0,layer,rows,hl,hr,k,w,hk=>by let ?cR:=hr k w hk;ext apS;{show ?X (hl f z).2 ?g};show ?NQ| ?r,layer,rows,hl,hr,k,w,hk=>by apply GC n _ _ ?_ ?_ k w hk;{intro v hv;rcases ?aKc with z|⟨u,hu,z⟩;{show ?G7};let ?rl:=?aJ5;let#[q3,q4]:=Ry q1 z;show#[q3,?g]};intro m v hm;cases hlt:m<layer.length;{rw[?CF]at hm;let hv:v∈layer:=qa9 hm;apply#[(hl v hv).1,?EE];rcases HN (ws:=ws) layer [] hv hf with z | z;{show ?ne};show ?zq};rw[?oN]at hm;let ?cR:=hr _ v hm;ext apS;{right;right;rw[List.take_append];apply qr5 _ ?_;rw[qi6 ?g];show z};right;right;rw[List.take_append];show ?aWU
abbrev U4[?j5][?hh][?kg]:LLInt:=Gd ws ?aMW
def eK[?j6][?pl][?pp][?Ml](hw:?dC):sD fam ?alp:=by apply EC _ _ h (GC 4 [w] [] ?_ ?_);{intro v hv;(let e:v=w:=?ra);subst e;show#[hw,by let:=(M0 hw).2;show qk1 ?P]};intro k v hk;simp at hk
abbrev jC[?j5](f:?O):Nat:=?a2B (·==f)
def Ae9[?j6]{f:?O}(h:?qV):ws[?zS]?=?i f:=by unfold jC;let hl:?a2B (·==f)<ws.length:=List.findIdx_lt_length_of_exists ?aWA;rw[qa0 hl];let:=List.findIdx_getElem (xs:=ws) (p:=(·==f)) (w:=hl);ext he
private def A28[?j6]{f:?O}{k:Nat}(h:f∈ws.take k):?zS<k:=by unfold jC;let ?xk:=qi1 h;let hlt:i<(ws.take k).length:=?nC;rw[qj0]at hi;split at hi;{rename_i hik;let hl:i<ws.length:=?nC;(let e:ws[i]=f:=by rw[qa0 hl]at hi;show qb1 hi);(let hle:?a2B (·==f)<=i:=by refine qf4;intro hgt;let:=List.not_of_lt_findIdx hgt;simp[e]at this);ext d};cases hi
abbrev Q3[?j5][?kg]:LLInt:=ws.map λw=>?aMO
def kN[?mZ]{k:Nat}[?pl](h:ws[k]?=?tE):?YM[k]?=?i ?aMO:=by unfold Q3;rw[qa6,h];rfl
def EM[?mZ][?Ml]:Bi ?YM:=by intro k p hp;unfold Q3 at hp;rw[qa6]at hp;cases hw:ws[k]? with| none=>rw[hw]at hp;cases hp| some w =>rw[hw]at hp;(let uD:?QE ?aYZ=p:=?aY6);subst uD;let ?cR:=h k w hw;let#[n1,n2]:=M0 h1;(let look:∀f∈?ck,((?YM).take k)[((?zS:Nat):Int).toNat]?=?i ((?aJt).map λg=>(jC ws g:Int)):=?axY (by let hm:=?KS;let hlt:=A28 hm;rw[qb8,qj0,?A hlt];show kN (Ae9 (qn4 hm))));apply#[?bv,?bv];{rw[qa3];cases hz:?Iw;{rw[?A hz]at n1;show ?YF n1};rw[?Nd]at n1;ext d};{intro f hf;let#[g,?aa]:=?N5;ext d};{intro f hf;let#[g,hg,?h]:=?N5;apply#[_,?lo g hg,?_];let#[w1,l1]:=Ry h1 hg;let#[m1,_]:=M0 w1;unfold lev;rw[qa3,qa3];let hz:¬?Iw:=?g;rw[?Nd]at n1;cases hy:lv fam g=0;{rw[?A hy]at m1;ext d};rw[?s hy]at m1;ext d};intro hl i j f g q r hij hf hg hq hr;rw[qa3]at hl;rw[qa6]at hf hg;cases ef:?ck[j]? with| none=>rw[ef]at hf;cases hf| some F =>cases eg:?ck[i]? with| none=>rw[eg]at hg;cases hg| some G =>rw[ef]at hf;rw[eg]at hg;(let ef':((jC ws F:Nat):Int)=f:=?a7U);(let eg':((jC ws G:Nat):Int)=g:=by simpa using hg);subst ef' eg';rw[?lo F (qa9 ef)]at hq;rw[?lo G (qa9 eg)]at hr;cases hq;cases hr;(let hz:¬?Iw:=by intro z;rw[?b1]at n1;ext d);rw[?Nd]at n1;rw[qa6,qa6,faces_agree h1 ?g hij ef eg]
def OQ[?mZ][?pl](hw:?dC):?asa ?aMW 85:=by (let step:∀l:LLInt,(∀v∈l,?T4)->?asa ?aYX ?ak0/\∀v∈?aYX,?T4:=?b0W (by apply#[by let:=Qq (ws:=ws) l [] hl;ext he,λv hv=>?_];rcases ?aKc with z|⟨u,hu,z⟩;{show ?G7};show(Ry ?aJ5 z).1));(let s0:∀v∈[w],?T4:=λv hv=>by (let e:v=w:=?ra);subst e;show hw);let#[a1,b1]:=step _ s0;let#[a2,b2]:=step _ b1;let#[a3,b3]:=step _ b2;simp only[Rk,qb6,qj9,qd5]at a1 a2 a3 ⊢;ext d
section
variable[?u]
universe e9
universe Hb
namespace L2
inductive Dn{A0:Type}(p:?KM):Prop| mk (x0:A0) (x:p x0):Dn p
inductive Ji{A0 A1:Type}(p:?s4):Prop| mk (x0:A0) (x1:A1) (x:?WB):Ji p
inductive Kz{A0 A1 A2:Type}(p:?sJ):Prop| mk [?Lz] (x:?b4b p):Kz p
inductive Sx{A0 A1 A2 A3:Type}(p:?b8X A3):Prop| mk [?Lz] (x3:A3) (x:?awu p):Sx p
inductive X9{A0 A1 A2 A3 A4:Type}(p:?HI):Prop| mk [?Lz] (x3:A3) (x4:A4) (x:?asx p x4):X9 p
inductive SM{A0 A1 A2 A3 A4 A5:Type}(p:?XM):Prop| mk [?Lz] (x3:A3) (x4:A4) (x5:A5) (x:?at2 p x4 x5):SM p
inductive Ex7{A0 A1 A2 A3 A4 A5 A6:Type}(p:?asF (?b4K A6)):Prop| mk [?mO] (x:?at9 p):Ex7 p
inductive MX{A0 A1 A2 A3 A4 A5 A6 A7:Type}(p:?Xw):Prop| mk [?mO] (x7:A7) (x:?asT p):MX p
inductive Ex9[?arq](p:?asF (A6->A7->?b4K A8)):Prop| mk [?mO] (x7:A7) (x8:A8) (x:?ayw p):Ex9 p
inductive VC[?ard](p:?asF (A6->A7->A8->?b4K A9)):Prop| mk [?mO] (x7:A7) (x8:A8) (x9:A9) (x:?ayE p):VC p
inductive mW[?arU](p:?asF (?b3l (sP->Prop))):Prop| mk [?mO] [?Lc] (x:?asG p W2):mW p
inductive Ai3{A0 A1 A2 A3 A4 A5 A6 A7 A8 A9 sP A11:Type}(p:?asF (?b3l (sP->A11->Prop))):Prop| mk [?mO] [?Lc] (x11:A11) (x:p x0 x1 x2 x3 x4 x5 x6 x7 x8 x9 W2 x11):Ai3 p
inductive A85{A0 A1 A2 A3 A4 A5 A6 A7 A8 A9 sP A11 A12:Type}(p:?asF (?b3l (sP->A11->A12->Prop))):Prop| mk [?mO] [?Lc] (x11:A11) (x12:A12) (x:p x0 x1 x2 x3 x4 x5 x6 x7 x8 x9 W2 x11 x12):A85 p
inductive Bu6{A0 A1 A2 A3 A4 A5 A6 A7 A8 A9 sP A11 A12 A13 A14 A15 A16 A17 A18:Type}(p:?asF (?b3l (sP->A11->A12->A13->A14->A15->A16->A17->A18->Prop))):Prop| mk [?mO] [?Lc] (x11:A11) (x12:A12) (x13:A13) (x14:A14) (x15:A15) (x16:A16) (x17:A17) (x18:A18) (x:p x0 x1 x2 x3 x4 x5 x6 x7 x8 x9 W2 x11 x12 x13 x14 x15 x16 x17 x18):Bu6 p
inductive Ft(p0 p1 p2:Prop):Prop| mk [?MA]:Ft p0 p1 p2
inductive Bv(p0 p1 p2 p3:Prop):Prop| mk [?MA] (x:p3):Bv p0 p1 p2 p3
inductive Di(p0 p1 p2 p3 p4:Prop):Prop| mk [?MA] (x:p3) (x:p4):Di p0 p1 p2 p3 p4
inductive Ey(p0 p1 p2 p3 p4 p5:Prop):Prop| mk [?MA] (x:p3) (x:p4) (x:p5):Ey p0 p1 p2 p3 p4 p5
inductive Lj(p0 p1 p2 p3 p4 p5 p6:Prop):Prop| mk [?pM]:Lj p0 p1 p2 p3 p4 p5 p6
inductive Z3(p0 p1 p2 p3 p4 p5 p6 p7:Prop):Prop| mk [?pM] (x:p7):Z3 p0 p1 p2 p3 p4 p5 p6 p7
inductive EI(p0 p1 p2 p3 p4 p5 p6 p7 p8:Prop):Prop| mk [?pM] (x:p7) (x:p8):EI p0 p1 p2 p3 p4 p5 p6 p7 p8
inductive SO(p0 p1 p2 p3 p4 p5 p6 p7 p8 p9:Prop):Prop| mk [?pM] (x:p7) (x:p8) (x:p9):SO p0 p1 p2 p3 p4 p5 p6 p7 p8 p9
inductive zJ(p0 p1 p2 p3 p4 p5 p6 p7 p8 p9 p10:Prop):Prop| mk [?pM] (x:p7) (x:p8) (x:p9) (x:p10):zJ p0 p1 p2 p3 p4 p5 p6 p7 p8 p9 p10
inductive As6(p0 p1 p2 p3 p4 p5 p6 p7 p8 p9 p10 p11 p12 p13:Prop):Prop| mk [?pM] [?aqh]:As6 p0 p1 p2 p3 p4 p5 p6 p7 p8 p9 p10 p11 p12 p13
inductive As5(p0 p1 p2 p3 p4 p5 p6 p7 p8 p9 p10 p11 p12 p13 p14 p15:Prop):Prop| mk [?pM] [?aqh] (x:p14) (x:p15):As5 p0 p1 p2 p3 p4 p5 p6 p7 p8 p9 p10 p11 p12 p13 p14 p15
universe L2
namespace Hb
open PySem L2
abbrev Iy[?ga](k:Int):Int:=?rB ?xp 0
meta abbrev LT[?n](H:Hp)(v:V)[?N]:Prop:=?ash v (?U ?gm)
meta abbrev TI[?n](H:Hp)(v:V)[?ga]:Prop:=?ash v ?aQi
section
variable[?E][?bF]
def TI.sq{v:V}[?hg](h:?UL):∃a,?iH/\?ahf:=?aJ0
def TI.mk[?av][?hg](h:?ahf):TI K H ?R ns:=?adI
def TI.same{v:V}[?hg][?fi](h:?UL):?aVu:=?lQ s h
def TI.t{v:V}[?hg](s:?z7)(h:?UL):?aVu:=Rep.t s (xT ns) h
def Li[?c5](k:Nat):Co xs ?aO ?Qx=?EM:=by unfold Co;rw[HT.sIx_none,HT.sIx_nat,zc7,List.drop_zero,List.take_eq_take_iff];ext d
def J6[?c5](k:Nat):Co xs ?Qx ?aO=?HN k:=by unfold Co;rw[HT.sIx_none,HT.sIx_nat];cases h:?a0Y;{rw[qq5 h,qi6 ?aWf]};rw[?VO ?aE0,List.drop_length,?aNW ?aE0];simp
def tN[?dW]{ys:?a2}{v:V}{d:L2.D}{ds:?w8}(hD:H D=?E1)(r:?au8 ys ds)(rv:?tG)(hi:?b1G imms ?Sr):?b2 K ?a9e ?a0u ?Sr :=(r.snoc rv).t (Z0.lst hD) hi
def Il[?dW]{ys:?a2}{v:V}[?u][?uQ](hD:H D=?E1)(r:?au8 ys ?gm)(rv:?b5L x):?b2 K ?a9e ?a0u ?aSl:=by
 let e:?aSl=?gm++[?NM]:=?G
 let h:=CZ ?agn;rw[e]at h ⊢;show tN hD r rv h
abbrev SameX(B:Addr)[?ml]:Prop:=?auO (b≠B) ?aVn
def SameX.refl(B:Addr)(H:Hp):?ie B H H:=λ_ _ _ h=>h
def SameX.trans{B:Addr}[?uP][?ML](b:?ie B H1 H2):?ie B H H2:=λc o n h=>b c o n (a c o n h)
def SameX.of{B:Addr}[?mn](a:?l1):?aYt:=λc o _ h=>?aYI
def SameX.upd{B:Addr}[?mn]{o:HO}[?ML]:?ie B H (?C H1 B o):=λc u n h=>by rw[Aj n];show a c u n h
def SameX.t{B:Addr}[?mn][?uS][?ML](h:H B=?hL):Z0 H H1 :=#[λb xs e=>?a8O,λb o u e=>?a8O]
def SameX.same{B:Addr}{H0 H H1:Hp}[?ML](s:?sf)(h:?auL H0 B):?cq H0 H1:=?avb (a b o ?HZ (?b7d s))
def M1:∀ns:?O,?aJF=0| []=>rfl| ?IN=>by exact max (dep ?fD) ?aJF=0;rw[M1 ns];rfl
def Up:∀xs:LLInt,?aSQ<=1| []=>?a5| ?r9=>by let h1:=Up xs;(let h2:?aDU=1:=by exact deps (Ek x)+1=1;rw[M1]);exact max ?aDU ?aSQ<=1;ext d
def X2(f:?O):∀xs:LLInt,(?gm).any ?ZF=?w (f∈xs)| []=>rfl| ?r9=>by rw[qd7,qp8,X2 f xs,yG];cases h:x=f;{subst h;simp};let h':¬f=x:=?RE;simp[h,h']
def eY[?a6i](hc:c)(h:A):?Vw:=?b3M ?A
def G7[?a6i](hc:¬c)(h:B):?Vw:=?b3M ?s
def neI[?mo](h:¬a=b):?abD:=?lX
def eqI[?mo](h:a=b):¬?abD:=?lX
def isI[?mo](h:a=b):?aMK:=?lX
def noI[?mo](h:¬a=b):¬?aMK:=?lX
def Cs{g:TG}[?gU][?E][?dP][?ek][?a5h] [?aoA]:?asP ?mz sY:=?azM Qo ?aB0
def Qn{g:TG}[?gU][?E][?dP][?ek][?aqI] [?aoA]:?asP ?o4 sY:=?azM yO ?aB0
def Fr{g:TG}[?gU]{lo:Int}{n:Nat}[?ek] (hs:?auN ?M (g ?z2 τ H ?aLF)) [?aro]:?asP ?rL sY:=X0 Pv h0 (λi ys τ H e p=>hs i ys τ H e p) hd
def Ak{t u:TS}{D:Ends}[?fj](P:?ax)[?a60][?apM]:?Km:=h hu
def zd0{t u:TS}{D:Ends}[?fj](P:?ax)[?apM][?a60]:?Km:=h hu
def E7{t u:TS}{D:Ends}[?fj](P:?ax)[?a60](h:?anO->?Km):?Km:=h hu
def OX{f:?O}:∀[?j6],?qV->?b3W ?i ?zS:=λ{ws} h=>by (let e:?b3W ws.findIdx? ?a8G:=by rw[List.findIdx?_map];congr 1;funext w;exact eqD (tI w) ?aIB=(w==f);rw[yG];cases z:w=f;{subst z;simp};simp[z]);rw[e,List.findIdx?_eq_some_of_exists (xs:=ws) (p:=?a8G) ?aWA];rfl
def small{n:Nat}(h:?DN):?b01 n:=qc1 h ?L
def Bl{n:Nat}(h:?DN):?Tz:=qe7 (small h)
universe e9
section
variable[?n]
abbrev nK:Sp:=?asE (Kz λ ?cp ?oH ?aL=>Di ?aiQ ?wc ?jO ?zW (?b6i (Iy ns k)))
abbrev KG:Sp:=?asE (Kz λ ?e8 (w:?O) ?ant=>Bv (vs=[v,?WR]) ?aKO ?dC (∀(p:Addr) [?Ac],?b9c ?IG us (?QE tI)))
abbrev NJ:Sp:=?asE (Kz λ(c fam letters:Int)=>Di (vs=[?Db,?WR,?t letters]) (0<letters) (letters<100) (fam<100) (∀(v:V) (H':Hp) [?hh],?aM->TI K H' v w->?dC->?sP))
abbrev EK:Sp:=?asE (SM λ(l:Addr) ?or ?e8 (ws:LLInt) (w:?O) ?ant=>Lj (vs=[?k7,v,?WR]) (H l=?hL) (?b2 K H us ?XN) ?aKO ?dC (ws.length<=100) (∀(p:Addr) (us':?a2) (H':Hp),?b9c (H' p=?ZI) us' ((?alp).map tI)))
abbrev kF:Sp:=?asE (Sx λ ?cp ?oH (kind most:Int)=>Ey (vs=[?t kind,?R,?t most]) ?wc ?zW (0<=most) (most<=100) (?b3z ?gA most))
universe e9
abbrev M3(d:L2.D):Bool:=QX ?id d&&!QX ?t6 d
abbrev belowD(d:L2.D)(b:Int):Bool:=match d with| ?aX=>?aP2| _=>false
abbrev Ci(n:Nat):Int:=if ?cu > ?i9 then 0 else ?i9
abbrev Eu[?N](d:L2.D)(l:Int):Bool:=match d with| ?aX=>?azB ?k3 (i<?gA)&&?w (Ci (?agc).length=l)| _=>false
abbrev Zw[?N][?pk](j i:Nat):Bool:=?w ?ahG
abbrev Ph[?N][?pk]:Bool:=(?dz ?UI).all λj=>(?dz j).all λi=>Zw xs p j i
abbrev toI:L2.D->Int| ?aX=>i| _=>0
abbrev jL(n:Nat):Bool:=n==0 || n==2 || n==3 || n==4
abbrev DI[?N](d:L2.D):Bool:=match d with| ?ov=>?aiV| _=>false
def Vj[?N](ds:?w8):DI xs ?ov=?aiV:=rfl
def Ag7{n:Nat}(h:?b1G jL n):n<=4/\?ZG:=by unfold jL at h;simp only[qw1,zc1]at h;ext d
section
variable[?n]
abbrev Lb:Sp:=?asE (Ji λ ?HE ?CK=>Ft ?aha ?qJ (?b41 (M3 d)))
meta abbrev Q1:Sp:=Lb K
abbrev Jk:Sp:=?asE (Kz λ ?HE ?CK (b:Int)=>Ft (vs=[x,?lN]) ?qJ (?b41 (belowD d b)))
abbrev Ez:Sp:=?asE (Ji λ ?HE (ds:?w8)=>Ft ?aha (Bt1 K H x ds) (?b6i ?OM))
abbrev Gv:Sp:=?asE (X9 λ ?cp ?HE ?CK (l:Int) ?ah=>Bv (?b6Z x (?t l)) ?bP ?qJ (?b41 (Eu xs d l)))
abbrev S7:Sp:=?asE (Sx λ ?cp ?e8 ?ah (p:?O)=>Ey (?b5Q v) ?bP ?aAl (p.length<=4) ((∀f∈p,?il/\?Ep/\?Vx+1=p.length)) (?b41 (Ph xs p)))
abbrev qD:Sp:=?asE (Sx λ ?cp (th:V) ?CK ?ah=>Bv (?b5Q th) ?bP (?b5W H th d) (?b3o (.bl (DI xs d))))
meta abbrev Yj:Sp:=nK K
meta abbrev On:Sp:=KG K
meta abbrev Yi:Sp:=NJ K
meta abbrev Sg:Sp:=EK K
meta abbrev Vx:Sp:=kF K
universe e9
section
variable[?E]{H:Hp}
def MZ{d:L2.D}(h:?b1G M3 d):∃i,d=?aX:=by cases d<;>simp[M3,QX]at h;show ?ik
def LT.get[?av][?u]{i:Int}(h:?bP)(h0:?k3)(h1:i<?gA):∃us v,?HG/\Vo us i=?aW/\?b5L ?agc:=by let ?aTi:=h;cases e;let ?aDJ:=?JJ;let hj:?OQ:=?g;(let e:?b79 ?gm (tI xs[j]):=by rw[qa6,?gr];rfl);let#[v,hv,tv]:=?pB e;apply#[us,v,hq,Bh hv,?_];rw[qb8,qa1,?gr];show tv
def LT.len[?av][?u](h:?bP):∃us,?HG/\?avV us.length:=by let ?aTi:=h;cases e;show#[us,hq,?adW]
def TI.get{v:V}[?kd]{i:Int}(h:?aAl)(h0:?k3)(h1:i<(p.length:Int)):∃a,?iH/\?aw6 H a ?aa0/\Vo ?aa0 i=?i (?t (?Pg ?XC 0)):=by let#[a,e,hq]:=h.sq;apply#[a,e,hq,?_];let ?aDJ:=?JJ;let hj:?D1:=?g;apply Bh ?_;rw[qa6,?gr];simp[hj]
def IX(n:Nat):?SX:=?TE
def mQ[?u]{l:Int}:∀{ds:?w8},?b0b l=true->ds=Ek ?P2| [],_=>rfl| ?lF,h=>by simp only[List.all_cons,qc2]at h;cases d with| int i =>exact L2.D.int i::ds=L2.D.int i::Ek ?P2;rw[←mQ h.2]| _=>simp[Eu]at h
universe e9
universe Hb
namespace L2
open PySem PySem.Spec PyProof.Rows
section
variable[?AB]{xc:Str}[?aR]{C c:Addr}[?j1]
universe e9
section
variable[?AB]{xc:Str}[?art][?bX][?ka]{te:TE}
universe e9
section
variable{fs:?cC}[?bF]{h B h' h2:Heap}
universe e9
meta abbrev XJ:=?eh->OAddr->?ax
section
variable[?Mn]{σ:St}[?bF]{s s':Shared}{e:Addr}{cls a0:Value}{dx:OAddr}
universe e9
section
variable[?b6][?E][?tu]{N:?bM}[?arP][?dT]{outer:?iD}[?bC]{H:Hp}{E:XK}
universe e9
section
variable{X:Cx}{J:XJ}[?a5j][?dR]{t:TA}
universe e9
universe L2
namespace L2
open PySem PySem.Spec PyProof.Rows PySem.W
section
variable{X:Cx}{Ae pn:Bn}[?fj][?bC]{J:XJ}
universe e9
section
variable{X:Cx}{th:Ends->XJ}
universe e9
section
variable[?dO][?bW][?d1]{g:?qF GenState}{d:Drawn}{t:Nat}{os:OsState}{a C:Addr}{o:Obj}{K:Frag}
universe e9
section
variable{X:Cx}{K:Frag}
universe e9
universe L2
namespace L2
open PySem PySem.Spec PyProof.Rows
def Bo.tupN{X:Cx}[?aR]{h':Heap}[?jA][?j1]{x y:V}{u v:Value}[?B](kk:∀c o,?aUH->?Zp)[?pR](hl:?ajm) (ht:?sp=?i { cls:=?cU,data:=?bI #v[u,v] }) (ru:?go) (rv:?T2):?asO ?a1c ?sW/\∀b∈fp,?C H ?aG ?Hm b=none:=by ext aq1;ext aop;let wX:∀c o,?a2j->?C H ?aG ?Hm c=?Z:=λc o e=>?b1q Aj (Ap e ?Ne) e;apply#[Bo.step (s:=s) (h':=h') (t':=t') (H':=?a1c) I (g':=s.gens) (d':=s.drawn) (ch:=fp) ?h2 (?b2R ?XX) (?b2R #[?On,?XX]) (λc o hc e n=>?_) (?b9R #[o,?XX]) (λc zs e=>?OY) (λc o w' e=>?OY) (λc ps e=>#[#v[],?ayb ?OY]) ?ok (λc w' e=>?_) ?fu,?h2];{let f:=?azL hf;show ?XS};{rw[Aj ?zt];show n};{let ?afr:=hm;show#[o,es',ep,kk _ o ?aFG ho,r]};{cases hcs:?avo c;{subst hcs;rw[Ab]at e;cases e;show#[?aVC,[u,v],?af ru (?af rv ?aH),#[_,ht,?V,?aa]]};rw[Aj hcs]at e;apply(?bL c w' e).stay (λc' y' hc' q=>?_) (λc' q=>?aR7) λc' zs q=>?aR7;rcases hc' with rfl | hc';{show kk _ _ ?aLM q};show ?aS7};let ?and:=?azL hl;rw[Aj ?zt];show(?azL hf).1
def My[?d1]{j t:Addr}{n:Nat}(g:?ns j t n):?ahV:=?a9z
def DJ[?d1]{e it:Addr}{i:Int}{old:Value}(h1:?auv h it i)(h2:∃o,?awq it):∀b∈?rk,?aSd:=?avr (by rcases ?iS hb with rfl | hb;{show#[_,h1,λv z=>by cases (show ?Pq from z)]};rw[?nc hb];show h2)
def Bo.fp2{X:Cx}[?aR][?B]:∀b∈[?ba,s.heap.objs.size],?uY:=?avr (by (let lb:?aSD:=by rcases ?iS hb with rfl | hb;{show ?sB};rw[?nc hb];ext eq);show I.fpOk lb (?ob lb))
abbrev IteG(S:?KB)[?cb]:It :=#[?awd ?k2,λi H x H'=>∃p v,?bZ/\?Du/\H'=?auf p (?b5 [?aX,v])/\∀xs,?k2->?A3=?aW,?axX ?k2]
def gS{X:Cx}[?aR][?mX][?it]{e it:Addr}{i:Nat}{old:Value}{x:V}[?bc][?arY] (hne:?Q0) [?B] (hf:∀b∈?rk,?uY) (h1:?auv ?aA it ?cl) (h2:∃o,?aM9/\?i3) (ru:?go) (hout:?Hi h' e it ?a4I u ?aG) (htup:?sp=?awG i) (hk:?auO ?sy ?ai1) (hT:∀h3,?aeS->(∃old,?auv h3 it ?a4I)->T h3) (hY:?y3->Y ?bV (?auf ?aG ?akQ)) : ∃r,?b94 ?gK ?rk ?Xq:=by apply#[?aa,wpAny_letOwnedTupleGo_enum hout ?aCR];replace Wa:?aeS:=Wa;let lte:?atO e:=qd0 h1;let ht3:h3.get? ?aG=?awG i:=?atB _ (qp1 lte) ?n7;let ?adN:=I.tupN (t':=?vv) (fp:=?rk) (x:=?aX) (y:=x) (λb o hb z=>?atB b ?aTO (hk b o ?aTO (λq=>hb (q▸ ?aWZ)) z)) hf (DJ h1 h2) ht3 ?ik ru;show(?b8N (hT h3 Wa ?aSP))
section
variable[?ka][?gU]{S:?KB}
def pF[?dP][?ek](hl:?auN ?lx ?k2) [?ao1]:?asP ?Be tc:=by apply ?aMV;rintro i m ys τ H ⟨rfl,hi,pp⟩;let q:=?b1U ys pp;cases hlt:?lC;{apply ?auc ?DJ ?Rl;let ?aQL:=y;show hs i v ys τ _ p ?JA pp hp};let e:?Da:=?g;subst e;show ?x #[?It,hd ys τ H pp]
def GP[?dP][?kU](hl:?atL ?lx ?k2) [?a5G] : ∃W:?g6,?b3c ?Be ?Be ?Be:=by apply ?aVv;rintro i m σ H ⟨rfl,hi,pp⟩;let q:=?a36;cases hlt:?lC;{apply ?asm ?DJ ?Rl;let ?aQL:=y;show hs i v σ _ p ?JA pp hp};let e:?Da:=?g;subst e;show ?b0l ?It ?Wt
universe e9
abbrev Ite[?n][?cb]:It:=IteG ?aYe a
def sV[?b6][?E][?it](a e it:Addr)(hne:?Q0):?b51 ?r3 ?aaN where
 mem:=?c2
 obj:=?b3C ?DZ
 keep:=?aJ7
 item:=by
  ext cZ;ext u2;ext ap4;show wpAny_pyNext_enum_item h1 h2 ?cf (x:=u) ?pw hne (?b9P (gS (i:=i) (Y:=(Ite ?a7 a).yld i H) (T:=?b7g ?ns) hne I hf h1 ?DZ ru hout ?n7 hk ?aJn λhn=>#[_,x,hn,?V,?aGQ]))
 done:=by
  ext cZ;ext u2;ext aqQ;ext ir;let hl:=rv.length;show ?b8S wpAny_pyNext_enum_end ?cf
 self:=λ_ _ _ _ _ st h=>by
  ext u2;show ?aPz
inductive ZF[?n][?pN]:Prop| mk:∀a,?sw->?avX ?ZJ ?r3 ?aAV
abbrev Bl6[?n](ta:TA):TI:=?asY ?aAV
def AX:?aH0:=?cX
def Yt{X:Cx}[?E][?it][?apA][?bJ][?L9]:?b4c ?aM1 Bl6:=by subst hK;ext kV;apply ?atu AX ?a2f;ext Lo;let ?aHN:=q1;subst e;cases r1 with| cons r rr =>cases rr;cases r;let ?IU:=?HH hq;apply call_enumerate_list ?q0 ?adP;apply ?aus sV
section
variable[?ka][?gU]
def HB[?E][?dP][?ek][?a5h] [?ao1]:?asP ?r3 tc:=?azM pF hs
def DH[?E][?dP][?kU][?aqf] [?a5G] : ∃W:?g6,?b3c ?r3 ?r3 ?r3:=?aVH
universe e9
def Bo.turnedN{X:Cx}[?aR]{h':Heap}[?jA][?j1][?B](k:?auO (b ∉ fp) ?Iu)[?pR] : ?Rr:=by ext aop;apply ?wt (g':=s.gens) (d':=s.drawn) (ch:=fp) ?d9 (?avQ ?a4w) (?avQ #[?On,?a4w]) ?aXz (?b2S #[o,?a4w]) ?DV ?aPw ?ajn ?ok ?aOq ?fu;{let f:=?sX;show ?XS};{let ?afr:=hm;show#[o,es',ep,k _ o (?b2O hf) ho,r]};apply ?aAM ?acR (λc q=>q) λc ys q=>q;rcases hc' with rfl | hc';{show k _ _ ?aLM q};show k _ _ ?aI2 q
def Ax3{c z TI TO i1 i2:Addr}(h:c ∉ ?k4):?zr/\c≠TI/\c≠TO/\?QC/\?UZ:=by simpa only[qe4,qj8,or_false,not_or]using h
def Bs6{p:?gR}[?a6x](h1:p z)(h2:p TI)(h3:p TO)(h4:p i1)(h5:p i2):?aRQ:=?av7 (by simp only[qe4,qj8,or_false]at hc;rcases hc with rfl | rfl | rfl | rfl | rfl<;>assumption)
def of5{p:?gR}[?a6x](h:?aRQ):p z/\p TI/\p TO/\p i1/\p i2:=#[?A1,?A1,?A1,?A1,?A1]
def HW[?d1][?a6x]{a b c d e:Value}(h1:?axL h e)(h2:?cQ h TI a b)(h3:?a9h)(h4:∃o,?awq i1)(h5:∃o,?awq i2):∀c∈?k4,∃o,?awq c :=Bs6 ?a7T #[_,h2,?aUE] #[_,h3,?aUE] h4 h5
def JT{X:Cx}[?aR][?mX][?it]{a b z TI TO i1 i2:Addr}{x y:V}{u v u0 v0:Value}[?arY] [?a6F] [?B] (hf:∀b∈?k4,?uY) (hz:?axL ?aA ?aS) (hTI:?b8u ?aA) (hTO:?cQ ?aA TO u0 v0) (h4:∃o,?b0t i1/\?i3) (h5:∃o,?b0t i2/\?i3) (ru:?go) (rv:?T2) (hz':?axL h' ?a8N) (XZ:?cQ h' TO u v) (htup:?cQ h' ?aG u v) (hk:?b71 (c≠TO) ?aRP) (hT:∀h3,?aIZ->?axL h3 ?aS->?b8u h3->(∃c d,?cQ h3 TO c d)->T h3) (hY:?y3->Y ?bV ?a1c) : ∃r,?b94 ?mC ?k4 ?f7:=by apply#[?aa,wpAny_letOwnedTupleGo_zip hz' λh3 hz3 Wa=>?_];replace Wa:?aIZ:=Wa;let ltz:=qd0 hz;let ?adN:=I.tupN (t':=s.toks) (fp:=?k4) (x:=x) (y:=y) (h':=h3) (?b9R (let #[n1,_,n3,n4,n5]:=Ax3 hc;?atB c n1 ?ahM)) hf (HW hz hTI hTO h4 h5) (?atB _ (qp1 ltz) ?n7) ru rv;show(?b8N (hT h3 Wa hz3 (?atB TI D.TIz (hk _ _ D.TIz D.TITO D.TIi1 D.TIi2 hTI)) #[_,_,?atB TO D.TOz XZ]))
def Bo.fp5{X:Cx}[?aR][?B]:∀b∈[?CU,?wg,?Gh,s.heap.objs.size,?ba],?uY:=λc hc=>by let lc:=Bs6 (p:=λc=>?auC c) ?ev ?ev ?ev ?l ?ev c hc;show I.fpOk lc (?ob lc)
abbrev vC(S:?KB)(N:?aK5)[?j4]:It :=#[λi H=>∃xs ys x y,?k2/\?KJ/\?dk/\?zg,λi H v H'=>∃p x y,?bZ/\v=?aK/\H'=?Kk/\(∀xs,?k2->?dk)/\∀ys,?KJ->?zg,λi H=>∃xs ys,?k2/\?KJ/\N xs ys i]
abbrev Itz[?n][?j4]:It:=vC ?aYe ?Vk a b
def vW[?b6][?E][?it](a b z TI TO i1 i2:Addr)[?a6F] :
 ?b4N ?oJ ?ns ?ns where
 mem:=?c2
 obj:=?b0C ?alk ?DZ
 keep:=λi h h' ?CA k=>by
  ext aoa
 item:=by
  ext cZ;ext LN;have ?anG:=hg;ext apr;ext aqF
  show wpAny_pyNext_zip_item D hz hTI hTO h1 h2 ?YV ?PO (x:=u) (y:=v) ?pw ?ra λh' hz' XZ jS h2' htup hsz hk =>
   JT (Y:=?b2v Itz) (T:=?b6J ?ns ?ns) D I hf hz hTI hTO ?alk ?DZ ru rv hz' XZ ?n7 hk ?aPf (?ato ?J0 ?J0)
 done:=by
  ext cZ;ext LN;have ?aR9:=hg;ext apr;let la:=ra.length;let lb:=rb.length;apply ?b5l wpAny_pyNext_zip_end ?YV ?PO
  . rcases hx with q | q
    . show ?x (?aw1 la q)
    . show ?y (?aw1 lb q)
  . ext aq0
 self:=?anE
inductive As1[?n][?pN]:Prop| mk:∀a b,?iU->?ZJ->?avX ((∃ys,SqL K H1 b ys)) ?oJ ?aKN
abbrev B88[?n](ta:TA):TI:=?asY ?aKN
def UX:?aPH:=?cX
def iL{X:Cx}[?E][?it][?apI][?bJ][?a5H] : ?b4c ?ajh B88:=by subst hK;ext kV;apply ?atu UX ?N0;ext aql;cases r1 with| cons ra rr =>cases rr with| cons rb rr =>cases rr;cases ra;cases rb;let ?agg:=?HH aW;let ?aPi:=?HH UC;(let a1:?a9w:=by let ?GG:=pa.isList;ext eL);(let a2:?alR:=by let ?GG:=pb.isList;ext eL);apply call_zip_2 ?YV ?PO ?aRL;apply ?au6 vW
section
variable[?ka][?gU]
def GZ[?aqN][?pO][?ar2][?ek](hl:?avW ?ec ?a91) [?a5E]:?asP ?Kb tc:=by apply#[?b0A n ?ec,?Zu,?_];rintro i m zs τ H ⟨rfl,hi,pp⟩;let ?aKR:=?aV9;cases hlt:?M;{apply ?b2C ?anL;apply ?eX;let ?ajF:=y;apply ?ej;show hs i u v zs τ _ p ?aac ?aVl pp hp};ext Lb;show ?b0l ?aEp ?aMo
def yD[?aqN][?pO]{g:TG}{tb:TS}{D:Ends}[?fj][?ar2][?arb](hl:?atL ?ec ?a91) [?aoE] : ∃W:?g6,?b3c ?Kb ?Kb ?Kb:=by ext a5S;rintro i m σ H ⟨rfl,hi,pp⟩;let ?aKR:=?a36;cases hlt:?M;{apply ?asm ?anL ?alX;let ?ajF:=y;show hs i u v σ _ p ?aac ?aVl pp hp};ext Lb;show ?b0l ?aEp ?Wt
def mK[?E][?pO][?a6G][?ek][?apy] [?a5E]:?asP ?oJ tc:=?awU GZ
def Af7[?E][?pO]{g:TG}{tb:TS}{D:Ends}[?fj][?a6G][?arb](hl:?atL ?ec ?aGc) [?aoE] : ∃W:?g6,?b3c ?oJ ?oJ ?oJ:=?awU yD
universe e9
def preSum_sum[?ga]:∀k,k<=ns.length->?a03 ?Uv k=(?Wq k).sum| 0,_=>by simp[preSum]| ?F,h=>by exact ?a03 _ k+?rB k 0=_;rw[?aYi ns k ?g,qd9,?BT,qz6,qa1,?BT];simp
def uU{X:Cx}[?dp]:?asW ?a4d (∃(p:Addr) (ns:?O),?fC/\?b5o p ?f9/\Q ?a2M H):=by ext el;let#[p,ns,?gf,q]:=h;ext a6C;let ?IU:=?gI;let hh:?Hy:=?dH;ext LX;(let rel:?ayy (∃t,v=?t ?mF t):=λi v e=>by ext ap2;(let hb:?avL ns ?aJj:=?hB);let ?kL:=?axK ?aB ?aJj;rw[e']at hu;cases hu;rw[qa1,hb];show ru);apply call_sum_walkG ?a3T;apply#[?a6q,?Uv,?a76,rel,λh' tk t' k=>?_];{let ?a1q:=pl;show ?a1w};{show ?b1R ?lV};{intro b hb;(let hb':?aBo\/b=p:=?e1);rw[ql3];rcases hb' with rfl | rfl;{show ?XT};let ?a1q:=pl;show Nat.lt_succ_of_lt ?Ej};ext a5J;apply#[?a2M,H,I1,#[t',?_],q];(let e:?a03 ?Uv ?yr=ns.sum:=by rw[qd4,←l1,?aYi ns _ ?l,qc8]);rw[e]
def oR{X:Cx}[?E][?dp][?bJ]:?asW ?a4d (∃(p:Addr) (ns:?O),?fC/\?b5I p ?f9/\Q ?a2M H):=?atS uU hc
def uY:?awQ "sum" ?a4d:=?cX
def K4{X:Cx}:?avD ?aS0 ?cN (i*j):=?b0a (mul_int q hc)
private def RT{i:Int}{m:Nat}(h:?uW):?a1C i<=m:=by unfold Builtin.Int.intBits;split;{show ?a5};rename_i h0;(let hne:i.natAbs≠0:=by intro z;show h0 (by let:i=0:=?g;simp[this]));show(?YJ hne).mpr h
def L6[?aqO](h:m+n<=134217728):?sZ:=by let h1:=RT hi;let h2:=RT hj;(let h3:¬((?a1C i:Nat):Int)+((?a1C j:Nat):Int) > ((bitsLine:Nat):Int):=by (let:bitsLine=134217728:=?L);ext d);unfold IntMulOk;intro hz;simp only[qc2]at hz;let h4:=hz.2;unfold Builtin.Int.intTooBig at h4;show h3 (by simpa using h4)
def cR[?j9](h1:-?lf<i)(h2:i<?lf):?sZ:=Ai4.ok (?x ?cR)
def A02[?j9](h1:-?lf<j)(h2:j<?lf):?sZ:=Ai4.ok (?y ?cR)
universe L2
namespace L2
open PySem PySem.W PySem.Calls PyProof.Rows
abbrev Uw:Nat:=1048576
def BK:∀[?hg]{x:Int},x∈ns->?Px ?Cg<=WData.weightAll ?JY| ?IN,x,h=>by rw[qd7];simp only[WData.weightAll];rcases ?rT with rfl | h;{ext d};let:=BK h;show Nat.le_add_left_of_le ?P
def uT[?hg](h:?b1G WData.layableAll [?Jd]):?Co:=by intro x hx;(let h1:?b1G ?w (?Px ?Jd<=2 ^ 20):=by (let:?b1G WData.layable ?Jd:=by simpa[WData.layableAll]using h);unfold WData.layable at this;show(Bool.and_eq_true_iff.mp ?P).2);(let h2:WData.weightAll ?JY<=1048576:=by let:=qc9 h1;simpa only[WData.weight]using this);let h3:=BK hx;cases h0:x.natAbs=0;{rw[h0];show Nat.pow_pos ?L};(let h4:?Px ?Cg=x.natAbs.log2+1:=by simp only[WData.weight];rw[?s λz=>h0 (by rw[show x=0 by simpa using z];rfl)]);(let h5:x.natAbs.log2<Uw:=by exact _<1048576;ext d);show(?YJ h0).mp h5
def jQ{l:OpenLaw}{n:Nat}[?aot] [?a72] (hdf:?aZV) (call:∀(w:World) (s₀ s₁:Shared) (mg mb:?gu) (fa:Addr) (o:Obj) (pm cd doc:Value) [?cb] (vs:?b4) [?ga],?Co → Ground q loose [] XP w s₀ mg mb ?qP->YP w ?qP → ?WG fa=?Z->o.data=?FR (docDef ?a5A d.params d.body d.scope pm cd doc)->s₁.heap.CodeRec cd ?a5A->?aDz → ?aAE->?yh->?Gx->?aJK → ?b0p (?zy l.prog w)) : ?ayT WalkO:=by intro w s₀ s₁ mg mb G Y fa o pm cd doc dV kV ho hd hcd hD hmg hg args vals as hpre hlay hrd hwl hlo;obtain rfl:dV=?aS:=Dflts.none hD hdf;obtain rfl:kV=?aS:=Dflts.noKw hD;let#[a,vs,ns,?V,hobj,hints,?lT]:=Att.script_of hn hpre hwl;apply enter_call (?JW (?fB w s₀ ?gw mg mb fa o pm cd doc a vs ns (uT hlay) G Y ho (fd_plain hd) hcd hmg hobj hints ?lT hg) ?aSZ);let#[?h,?mj]:=hq;show#[?x #[?kq,?kq,[],?h,?Ex,?kq,Att.post_true l _,λ_=>#[List.Pairwise.nil,λ_ hm=>(nomatch hm)]],?mj]
def walk_ofB{l:PySem.W.OpenLaw}{n k:Nat}[?aot]{K:Params->PySem.W.Frag}{CX:World->ZI}{sp:World->Sp}{x:Str} [?a72] (hn2:?Tz) (hdf:?aZV) (hr:?aIF) (hY:∀(w:World) [?cj],YP w h->?Sv h) (F:∀(w:World) (mg:?gu) (fa:Addr) [?cj],?Sv h->h.Ns ?a2A mg->?aDz → ∃fd:FuncData,?a81 ∧ ∀base:Heap,?Sv ?dG->?a4l->Bs l.prog w ?Uj mg ?dG (CX w) k fa fd [x] (sp w)) (lX:∀(w:World) (H:Hp) [?cb] [?ga],?Gx->?Co->A74 H->SqL ?Uj H a ?f9->sp w ?e5 H ?aJJ ?q4) (hCX:∀(w:World) (H:Hp) [?gd] (e:Value) [?hk],CX w [] H s ?q4 e s'->False) : ?ayT PySem.W.WalkO:=by apply jQ hn hdf λw s₀ s₁ mg mb fa o pm cd doc a vs ns A42 G Y ho hd hcd hmg hobj hints hlen hg=>?_;let KX:=hY w _ Y;let#[fd,hb,hF]:=F w mg fa _ KX G.T.g hmg;show XN KX G.T.g G.T.b G.T.builtins G.T.nolimit hg hobj hints (?m ?lT hn2) hr hF hb (λH hO hS=>lX w H a ns ?lT A42 hO hS) λH e s'=>hCX w H ?gw e s'
universe L2
namespace Hb
abbrev sumN[?aI]:?J| 0=>0| ?r=>?tF
def Ag{f g:?J}:?b5E (?auq ?a3x) (?gh=?IH)| 0,_=>rfl| ?r,h=>by exact ?tF=?acz;rw[Ag ?iZ,?rq]
def U7:∀n:Nat,?b9I ?dh=0| 0=>rfl| ?r=>by exact ?si+0=0;rw[U7 n];rfl
def De(f g:?J):∀n:Nat,?asc (f k+g k) n=?gh+?IH| 0=>rfl| ?r=>by exact ?si+(?hC+g n)=?tF+?acz;rw[De f g n];ext d
def Bd(c:Int)[?aI]:?b8V c (c*?gh)| 0=>by exact ?cu=c*0;rw[qe1]| ?r=>by exact ?si+c*?hC=c*?tF;rw[Bd c f n,Int.mul_add]
def Dw(c:Int)[?aI](n:Nat):?b9I ?aFF=?gh*c:=by rw[qf8,←Bd];show ?a32
def Cf[?MJ](m:Nat):∀n:Nat,?asS (?j ?aC m) n=?asU ?aVs m| 0=>(U7 m).symm| ?r=>by exact ?si+?j ?hC m=?asU (?aVs+f n j) m;rw[Cf f m n,De]
def Eo[?aI](i:Nat):?b8V (if k=i then 1 else 0) (if ?M then ?aC else 0)| 0=>?ak4| ?r=>by exact ?si+?axM n ?hC=_;rw[Eo f i n];cases h:n=i;{subst h;simp};cases h2:?M;{rw[?lj,?ad,?bD];ext d};rw[?gp,?ad,?z];ext d
abbrev Ic(n:Nat)[?aI]:?O:=?yo f
def Jw(n:Nat)[?aI]:?atm ?tU n:=by unfold Ic;rw[qa3,ql2]
def Ve{n i:Nat}[?aD](h:?M):?avL ?tU ?aC:=by unfold Ic;rw[qa6,qp7 h];rfl
def cV(n:Nat)[?aI]:?aVr=?tU++[?hC]:=by unfold Ic;rw[ql5,qb2];rfl
def FZ[?arO]:?tU=Ic n g:=by unfold Ic;apply qm7 λi hi=>h i ?gy
def Ae3(n:Nat):?azG ?cu ?aRC:=by induction n with| zero=>rfl| succ n ih =>rw[cV,←ih];clear ih;induction n with| zero=>rfl| succ n ih =>rw[qm1,qn8,ih];let ih':=ih;rw[qm1,qn8]at ih';rw[←qx6,ih']
def JP[?aqO]:?aHF<?aV2:=by rw[qb7,qf2];show qn2 hi hj
def YR[?j9]{m:Nat}(hi:?uW)(hj:?b24 ?yn):(i+j).natAbs<2 ^ ?ae:=by let h:=qg9 i j;rw[qj2];generalize ?yn=q at *;show ?BD h hi hj
def Ah3{i:Int}{m n:Nat}(hi:?uW)(h:?jI):?aY7:=qb0 hi ?aRN
def Sa[?aD]{m:Nat}:?b5E (?auq (?Ir<?yn)) (?S8<?aV2)| 0,_=>by exact ?Pi<_;show Nat.pow_pos ?L| ?r,h=>by let h1:=Sa (n:=n) (f:=f) ?iZ;exact ?agX<2 ^ (m+n+1);show YR h1 (Ah3 ?rq (qg3 m n))
universe Hb
namespace Hb
open PySem L2
meta abbrev VI(n:Nat)[?aI]:?a2:=?a0m
abbrev dL(n:Nat)[?aI]:L2.D:=?U (Ek ?tU)
abbrev dT(h w:Nat)[?MJ]:L2.D:=?U ((?dz h).map ?OG)
section
variable[?E]{H H' H1 H2:Hp}
def Bz(n:Nat)[?aI]:?aEZ=n:=by rw[qa3,Jw]
def C7{n i:Nat}[?aD](h:?M):?avL ?jV ?a0o:=by rw[qa6,Ve h];rfl
def Bs9{n i:Nat}[?aD](h:?M):Vo ?jV ?aL2=?i ?a0o:=Bh (C7 h)
def v6{n i:Nat}[?aD]{u:V}(h:?jV[i]?=?c0):?M/\u=?a0o:=by let h1:i<?aEZ:=?aHz;rw[Bz]at h1;rw[C7 h1]at h;show#[h1,(?B9).symm]
def Zz(n:Nat)[?aI]:VI ?r f=?jV++[?t ?hC]:=by exact ?awT ?aVr ?aB=_;rw[cV,qb2];rfl
def U2[?arO]:?jV=VI n g:=by exact ?a0m=(Ic n g).map ?aB;rw[FZ h]
def A70(n:Nat):?azG ?TN (VI n ?dh):=by exact _=?awT ?aRC ?aB;rw[←Ae3,List.map_flatten,zb5];rfl
def Bs1{v:V}{n:Nat}[?aD](h:?ash v ?agE):∃a,?iH/\?RO:=?aJ0
def yM[?av]{n:Nat}[?aD](h:?RO):?ash ?R ?agE:=?adI
def J0{v:V}{h w:Nat}[?eo](r:?ub):∃a us,?iH/\?HG/\?KZ/\?aga:=by
 have#[?kk,q,r]:=r;let hl:?KZ:=?adW
 apply#[?kk,q,hl,λi u hu=>?_];let hi:i<h:=by let:=(?bi hu).1;ext d
 have#[d,hd,rd]:=r.getV hu;rw[qa6,qp7 hi]at hd;let e2:d=?aMy:=(qb1 hd).symm;subst e2;show#[hi,Bs1 rd]
structure Rows(H H1:Hp)[?hq][?MY](w:Nat)[?MJ]:Prop where
 same:?l1
 free:?bl
 «at»:?b4H H1 D ?m1
 row:∀j a,as[j]?=?y1->?ly/\?yM/\?b4H H1 a (VI w ?bR)
def Rows.nil[?dW]{w:Nat}[?eo](h:?bl):?axJ ?QB []:=#[?a39 h,h,Ab,?b7D ?oh]
def Rows.push{D b:Addr}[?md]{w:Nat}[?eo][?pT](hb:?auL H1 b)(s:?NX)(h2:?b4H H2 b (VI w (f as.length))):?axJ (?C H2 D (?U (?m1++[?bT]))) ?aC6:=by (let hne:?Dz:=λz=>by rw[z,R.at]at hb;cases hb);apply#[(?QR s).turn ?wT,?wT,by rw[Ab,qb2];rfl,?Xf];cases hj:j<as.length;{rw[qc5 hj]at e;let#[h1,h2',h3]:=?vD;show#[h1,h2',by rw[Aj h2'];show ?anN]};let hl:?b3Z j ?aC6:=?a0a;(let ej:j=as.length:=by simp at hl;ext d);subst ej;(let eb:b=a:=?cw);subst eb;show#[?aZQ hb,hne,by rw[Aj hne];show h2]
def Rows.rep[?dW][?md]{h w:Nat}[?eo][?pT](hl:?L2):?b5W H1 ?cr ?rt:=by apply#[D,?aa,.of R.at,?_];subst hl;(let go:∀(bs:?cC) (n:Nat),(∀j a,bs[j]?=?y1->?b4H H1 a ?abU)->?b2 K H1 ?aYn ((?QF n bs.length).map ?OG):=by intro bs;induction bs with| nil=>intro n _;rfl| cons b bs ih =>intro n hr;apply#[?bT,?aYn,?h,yM ?Tv,?_];{let:=hr 0 b ?h;simpa using this};apply ih ?r ?Xf;let:=hr ?a0 a ?cw;rw[?aA9];show this);(let:=go as 0 (?b7D (by rw[qu4];show ?TR)));rw[List.range_eq_range'];show this
def Rows.later[?dW][?md]{w:Nat}[?eo][?pT](s:?NX):?axJ H2 as :=#[?QR s,?wT,?axb R.at,?b7D #[(?vD).1,?aTe,?axb ?TR]]
def Rows.earlier{H0:Hp}[?dW][?md]{w:Nat}[?eo](s:?sf)[?pT]:?oQ H0 H1 D as w f :=#[s.trans R.same,?a3V ?wT,R.at,?b7D #[?a3V (?vD).1,?aTe,?TR]]
def HA{g:TG}[?gU][?E][?pO][?a6G][?ek][?apy] [?ao5]:?asP ?oJ sY:=mK hn Pv h0 hl (λi x y zs τ H p e1 e2 pp hp=>?ayY pp) hd
universe e9
abbrev newL(H:Hp)(n:Nat)[?aI](Q:?lr):Prop:=∀[?ma],?bl->?aM->?gH=?asl ?jV->?dB
abbrev Ad6(H:Hp)(h w:Nat)[?MJ](Q:?lr):Prop:=∀[?hq] [?MY] (H':Hp),?L2->?axJ H' as->?dB
section
variable[?n]
abbrev fO:Sp:=?asE (X9 λ ?e8 (h w j:Nat) ?Bx=>Di (vs=[v,?oX]) ?ub ?FK (j<w) (newL H h ?aZb Q))
abbrev Kh:Sp:=?asE (?b4y ?FK (Ad6 H w h (λi j=>f j i) Q))
universe e9
section
variable[?n]
abbrev Mf:Sp:=?asE (Ji λ ?cp ?oH=>Di ?sw ?wc ?zW ?Co (∀H',?a7V))
abbrev Yf:Sp:=?asE (Ex7 λ(a b:Int) (x y:Addr) ?Ft (p q:?J)=>Ey (vs=[?uh,?jh,?lN,?I y]) (?b5I x (VI n p)) (?b5I y (VI n q)) ?l3 ((?b9M (?cN a ?gS/\?cN b (q j)))) (?b6b n (a*?gS+b*q j)))
abbrev Vv:Sp:=?asE (SM λ(x:Addr) ?e8 ?NL (a:?J) ?Bx=>Lj (vs=[?jh,v,?EQ]) (?b5I x (VI h a)) ?ub ?FK ?xT ((∀k j,k<h->j<w->?cN (a k) (f k j))) (?b6b w (?j (λk=>a k*f k j) h)))
abbrev W4:Sp:=?asE (Ex7 λ(u v:V) (h d w:Nat) (f g:?cK)=>Z3 (vs=[u,v,?EQ]) (?b5W H u (dT h d f)) (?b5W H v (dT d w g)) ?FK (d<=1000) ?xT ((∀i k j,i<h->k<d->j<w->?cN (f i k) (g k j))) (Ad6 H h w (λi j=>?j (λk=>f i k*g k j) d) Q))
abbrev bS[?d0]:Sp:=?asE (∃n i:Nat,vs=[?fD,?aX]/\?l3/\?b6b n ?SP)
abbrev ID[?d0]:Sp:=?asE (∃n:Nat,vs=[?fD]/\?l3/\Ad6 H n n ?Ry Q)
universe e9
universe Hb
namespace L2
open PySem PySem.Spec PyProof.Rows
structure Kb[?hb][?n][?mT][?ca](m:Str)[?Li]:Prop where
 ex:∃(f:Addr) (fd:FuncData),YT K C m f/\?Ct
structure MV[?hb][?n][?mT][?ca][?Li]:Prop where
 ex:∃(f:Addr) (fd:FuncData),Mk K C f/\?Ct
section
variable{X:Cx}[?E][?ara]{x m f:Str}{p pos apos pos':Pos}{e o value:Expr}[?dR]{ta tv:TE}{t:TA}
def C6[?LO][?arG][?kZ][?hc][?LZ]
 [?a5O] (hpl:?W (?k9 (·.1)=false) ?aJ)
 (ht:?W (?aUI=(do
   let ov ←?kF
   ?sV
   let ?rn ←?rH
   ?RT)) ?aJ) :
 ?au2 ?a2G (?b5e [] E0 t):=by
 ext a6Q;show Ab7 he c h1 h3 ?xL h2 ?aH LA ha hst hpl ht
def P6[?LO][?arG][?kZ][?LZ]
 (ht:?W (?ama=(do
   let ov ←?kF
   ?sV
   let ?rn ←?rH
   ?aBZ)) ?aJ) :
 ?au2 ?Z4 (?b5e [] E0 At7):=by
 ext a6Q;show WM he c h1 h3 ?xL h2 ?aH LA ht
def P7(h:?azO MV C)[?kZ][?a5x][?hc](hk:?b9J (?a0<=k))[?tk] (hpl:?W (?k9 (·.1)=false) ?aJ):?au2 ?w9 (Ak2 C sp [] E0 t):=by ext a6Q;show Ab8 h1 h3 ?xL hg hm h2 ?aH LA ha hdb he hpl
def Be(he:?abP)[?bJ](hb:?atv ?alF):?au2 ?U9 (Bf0 K ta f):=by subst hK;show Aw4 he hb
def F1[?aru][?bJ](hs:?atv ?an6):?azm K:=by subst hK;show Av9 ha hv hs
universe e9
meta abbrev TJ:=?b3k ?ar
section
variable{X:Cx}{e v₁ v₂:Expr}{es rest:?dD}{te:TE}{tj:TJ}[?bX]
universe e9
universe L2
namespace Hb
open PySem L2
inductive Tn where| mi (i:Nat) | sw [?dU] | ad [?dU] (n:Int)
abbrev ZN:Tn->L2.D| .mi i=>?b5 [?f8 "minus",?aX]| .sw i j=>?b5 [?f8 "swap",?aX,?oX]| ?FJ=>?b5 [?f8 "add",?aX,?oX,?fD]
abbrev ZS:Tn->?cK->?cK| .mi i,f=>λr c=>if r=i then -?EH else f r c| .sw i j,f=>λr c=>if r=j then ?EH else if r=i then ?NC else f r c| ?FJ,f=>λr c=>if r=i then 1*?EH+n*?NC else f r c
abbrev tnB:Tn->Tn| ?FJ=>.ad i j (-n)| t=>t
abbrev tnA:Tn->Tn| ?FJ=>.ad j i (-n)| t=>t
abbrev tB(B:Nat):?acd| .ad _ _ n=>n.natAbs<2 ^ B| _=>True
def P0{f:Str}{v:V}:∀[?pX]{x:V},?a1e=?d7->?aVd=fs.length| [],x,h=>?zY| (g,y)::r,x,h=>by unfold putF;cases e:g=f;{rw[?cF];rfl};rw[?iE,qd5,qd5];rw[qu7]at h;(let e2:?awB (f==g):=?b6g ?rC);rw[e2]at h;rw[P0 h]
abbrev Y8(H:Hp)(Z:?gR):Hp:=λa=>@ite _ (Z a) ?Bj ?aO ?b0
section
variable[?E]{H H' H1:Hp}{Z:?gR}
def Y7[?av](h:¬Z a):?a99=?b0:=?b3K ?ad
def DB[?av](h:Z a):?azZ ?a99:=?b3K ?b3
def Qd:?cq ?aVZ H:=λa o e=>by cases h:Z a;{rw[DB h]at e;cases e};rw[Y7 h]at e;show e
def gK(h:∀a o,¬Z a->?aVz):?akS:=λa o e=>by cases hz:Z a;{rw[DB hz]at e;cases e};rw[Y7 hz]at e ⊢;show h a o hz e
def WD[?fi]:?akS:=gK λa o _ e=>s a o e
def MJ[?av][?uS]{h w:Nat}[?eo](hq:?HG)(hl:?KZ)(hr:∀i,i<h->∃b,us[i]?=?Sp/\?aUT):?ash ?R ?rt:=by apply#[a,us,?gf,?_];subst hl;(let go:∀[?ch] (n:Nat),(∀j,?aOi->∃b,vs[j]?=?Sp/\?asu b ?abU)->?au8 vs ((?QF n vs.length).map ?OG):=by intro vs;induction vs with| nil=>intro n _;rfl| cons v vs ih =>intro n hv;let#[b,e,hb]:=hv 0 ?G;(let ev:v=?bT:=?cw);subst ev;apply#[?bT,vs,?h,yM ?e1,?_];apply ih ?r ?bf;let#[b',e',hb']:=hv ?a0 (by simpa using hj);apply#[b',by simpa using e',?_];rw[?aA9];show hb');(let:=go us 0 λj hj=>by rw[qu4];show ?ayF hr);rw[List.range_eq_range'];show this
def Rows.hid[?dW][?md]{h w:Nat}[?eo][?pT](hl:?L2)(hz:∀a,Z a->?yu):?b5W (Y8 H1 Z) ?cr ?rt:=by let nz:∀a,?ly->¬Z a:=λa e z=>hz a z e;apply MJ (us:=?m1) ?Tv ?a9Z ?k0;{rw[Y7 (nz D ?wT)];show R.at};let hi':i<as.length:=?g;let ?GD:=?Cr i as[i] ?ag5;apply#[as[i],by rw[qa6,?ag5];rfl,?Tv];rw[Y7 (nz _ h1)];show h3
universe e9
section
variable[?n]
abbrev Lc:Sp:=?asE (Kz λ ?cp ?Ft ?CR=>Bv (?b5Q ?fD) ?RO ?l3 ?k6)
abbrev y9:Sp:=?asE (?b4y (h<=40) ?k6)
abbrev FP:Sp:=?asE (Ji λ(u:V) ?VP=>Ft (vs=[u]) ?Z7 (∀(v:V) (H':Hp),?aM->?b5W H' v (ZN ?Qu)->?sP))
variable(CL CT:Addr)
universe e9
section
variable[?E]{CL CT:Addr}[?bF][?arS][?eo]{ds:?avK Bool Tn}
abbrev Ls[?ml]:Prop:=∀c q,?b4H H c q->?b4H H' c q
abbrev Kp[?ml]:Prop:=∀a,?yu->?aCd
def Kp.trans[?uP](x:?US)(y:Kp H1 H2):Kp H H2:=λa e=>y a (x a e)
def Kp.of[?mn](s:?l1):?US:=λa e z=>e (?a3V z)
def Kp.upd{H:Hp}{p:Addr}{o:HO}:Kp H (?auf p o):=λa e z=>by cases hap:a=p;{rw[hap,Ab]at z;cases z};rw[Aj hap]at z;show e z
def Kp.x[?mn]{p:Addr}{o:HO}(s:?ie p H H1)(hp:H1 p=?Z):?US:=λa e z=>by cases hap:a=p;{rw[hap,hp]at z;cases z};cases q:?b0 with| none=>show e q| some o'=>rw[s a o' hap q]at z;cases z
universe e9
section
variable[?n]
universe e9
section
variable[?E]{CL CT:Addr}[?bF][?arS][?eo]{ds:?avK Bool Tn}
universe e9
universe Hb
namespace L2
open PySem PySem.Spec PyProof.Rows PySem.W
section
variable{X:Cx}
abbrev X7(_i j:Int):Prop:=j≠0/\j.natAbs.log2<9000
def X7.of[?j9](h0:j≠0)(h:?b24 ?jY):X7 i j:=#[h0,?aFw h]
def Jt:?avD ?aHX X7 (i.fdiv j):=?b0a (?aSe hc.1 q (?x (PyProof.noPylong_of_log2 hc.2)))
abbrev insAt[?a6d]:?d6:=?EM++y::?HN k
inductive MU(x:V)[?ch][?dS]:Prop| mk:∀(l:Addr) [?c5] (k:Nat) (y:V),?zf->(vs=[?f5,y])->?nD->?a0Y->?agS->?b4w ?as ?a3w ?aJd
abbrev Aa5:?rN:=?ayU ?aJd
def i8:MtM X "list.insert" Aa5:=by ext LM;let#[l,xs,k,y,?V,hH,hk,hz,q]:=h;cases rx;let#[u1,u2,?h,r1,r2]:=bM rv;let ?dv:=r1;ext LT;(let hsl:(?zv:Int)<?mM:=by let h1:?asp k:=?m hk z;(let h2:sizeLine<=?h8:=?cX);let h3:=?m h1 h2;ext d);(let hfit:¬?auy (! ?abI ?aL):=by rw[?aj0 ?g hsl];show qf5);(let hsz:?asp its.toArray.size:=by rw[qd4];show ?nI hl z);obtain⟨ki,hki⟩:∃ki:Int,ki=?aL:=?ik;rw[←hki]at hfit ⊢;let hm:=AutoSeq1.list_insert_list_int_val_1 l ?bO n ki t u2 hfit hsz;apply ?oj F.slot_list_insert ?t2 F.entry_list_insert (?ayq F.args_list_insert_3) hm ?Jy;apply#[?as,_,?UV (its':=?pE k u2 its) hH e ?_ ?_ ?_,?h,q];{let hkl:k<=its.length:=?g;let hkn:ki.toNat=k:=?g;simp only[qd4,hkn];rw[?z,qq5 hkl];refine Array.ext';simp only[insAt,Array.toList_append,Array.toList_push,Array.toList_extract,List.extract_eq_drop_take,List.drop_zero,zc7];rw[qx6,qi6 (i:=its.length-k) ?aWf];rfl};{show(?Re k).append (?af r2 (?FQ k))};unfold insAt;rw[qb6,qd5,qc3,qi7];ext d
structure Bu7(K:Frag)[?hq](m:Str)(f:Addr):Prop where
 rd:readsIn K D ?aMM=true
 fc:findCls K ?cr ?aMM m=?i (.val ?fN)
 ga:specialIn K ?cr "__getattribute__"=?i (?i (?di "type.__getattribute__"))
 kp:?vi
structure A81[?hb](K:Frag)[?mT][?ca](m:Str)[?Li]:Prop where
 ex:∃(f:Addr) (fd:FuncData),Bu7 K C m f/\?Ct
def Ac0[?ara]{x m:Str}{np apos pos:Pos}[?fp][?dR]{t:TA}{pl:?CC}(h:?axs A81)[?kZ][?a5x][?hc][?LZ]
 (hdb:?a3n) [?a5O] (hpl:?W (?k9 (·.1)=false) ?aJ)
 (ht:?W (?b4G ?aP8=(do
   let ov ←?b4G ?aeK
   ?sV
   let ?rn ←?rH
   ?RT)) ?aJ) :
 ?au2 ?aP8 ?aLb:=by
 have#[f,fd,B,hb,F]:=h.ex;ext bE;apply qu3 (pl:=pl) ?Wo ht;apply method_cls ?dX B.ga (cls_value ?dX B.rd B.fc ?h ?_);apply qw4 (h₀:=X.base) ?Dm B.kp (E6 (?b6e ?H _ ?lw) ?aCo) hst hpl;show iJ F ?xL hb ?aH LA I1 r q
universe e9
universe L2
namespace L2
open PySem PySem.Spec PyProof.Rows
section
variable[?dO][?bW][?bC]
def Lu{j t:Addr}[?AT]{x:Value}[?bb][?aqe][?a6z] (k:∀h',?a0T->?b2n j->Q x ?f7):?aRJ:=by ext anu;simp only[qb8,gx];apply ?b2E (qc6 #[x,?h,qc6 (k _ ?_ ?adz)]);show#[_,?aHh _ q1 (Obj.isFreed_of_fields (?aNz q3 _)),(Obj.cls_mapFields ..).trans q2,by rw[?aNz q3];simp[rawInt]]
def T6{j t:Addr}[?AT][?bb][?MC][?aqe](gx:?aTL) (k:∀h' e,?agd->?aJ3):?aRJ:=by ext anu;simp only[qb8,gx];apply ?q (zc0 (?b2E ?_));exact ?asN (newExc ?aSB []) _;apply ?iR;simp only[newExc,newTuple];apply ?q ?aZW;apply ?q (m:=firstArgMember _ _) (wpAny_of_eq (a:=Value.none) (by first | rfl | (simp only[firstArgMember];rfl)) ?_);apply ?aZW;simp only[raiseNew];apply ?awo wpAny_handled;(first | rw[show ?azZ A.in1.handled from hn] | rw[hn]);apply ?b6C (wpAny_throw ?_);show k _ _ (((?adz).extBut.push _).push _) (?b6t ?eS)
def sQ[?LH]{x y u v:Value}[?bb][?L4] [?arZ] (k:?aui ?bV) : ?b2k ?aXN:=by ext ao6;ext anw;ext apV;apply ?q (Lu ?aiu ?aJE gx λk2 f1 w2=>?ey);let gb2:?cQ k2 b u v:=?nv _ _ D.TOi1 (?kn _ _ D.TOz gb);apply ?avE qq8 gb2 ?h;apply ?q (?aFO gb2 λk3 gb3 w3=>?_);replace gb3:?cQ k3 b x v:=gb3;apply ?q (?a4O ?ey);apply ?b6U ?q;exact ?asN (?Xz ?zw) _;apply ?q (Lu (((g2.extBut ?kn D.i2z).extBut ?nv D.i12.symm).extBut ?jZ ?aDc) (((e2.extBut ?kn D.l2z).extBut ?nv D.l2i1).extBut ?jZ D.l2TO) gy λk4 f2 w4=>?ey);let gb4:?cQ k4 b x v:=?E5 _ _ D.TOi2 gb3;apply ?avE qq8 gb4 ?h;apply ?q (?aFO gb4 λk5 gb5 w5=>?_);replace gb5:?cQ k5 b x y:=gb5;apply ?q (?a4O ?a7S);apply ?avE qq8 gb5 ?h;apply ?awo wpAny_newTuple;(let sz:?avo k5.objs.size:=by rw[w5.1,w4.1,w3.1,w2.1,w1.1]);let gz5:?avf k5 ?CS:=?oi _ _ ?aRG (?E5 _ _ D.i2z.symm (?jZ _ _ ?aRG (?nv _ _ ?afY gz1)));let kp:?b71 ?Ez (?QC->?UZ->?afT->k5.get? c=?Z):=λc o c1 c2 c3 c4 e=>?oi _ _ c2 (?E5 _ _ c4 (?azE c2 ?nv e));let f15:?aEC i1 t1 ?r:=((f1.extBut ?jZ ?ab8).extBut ?E5 D.i12).extBut ?oi ?ab8;let f25:?aEC i2 t2 ?ae:=f2.extBut ?oi ?aDc;let lz:z<k5.objs.size:=qd0 gz5;exact ?asN (?aHo ?mC ?aiv) _;ext apw;let gz6:?avf (k5.push { cls:=?cU,data:=?bI #v[x,y] }) ?CS:=?avR gz5;apply ?ay8 gz6 (λk7 gz7 w7=>?_);replace gz7:?avf k7 ?aDS:=gz7;apply qm0 gz7 ?G λk8 gz8 w8=>?_;replace gz8:?avf k8 ?aDS:=gz8;let up:?b71 (k5.get? c=?Z) (k8.get? c=?Z):=λc o c1 e=>?aJ1 _ _ c1 (?zz _ _ c1 ?lV);let gt:?cQ k8 ?a3N x y:=?aJ1 _ _ ?ahb (?zz _ _ ?ahb ?eS);(let s8:k8.objs.size=k5.objs.size+1:=by rw[w8.1,w7.1,ql3]);rw[sz]at gz8 gt s8;apply qc6 ?aTr;exact Q ?aiv _;rw[sz];show k k8 gz8 (up _ _ D.TOz gb5) (f15.at λo e=>up _ o D.i1z e) (f25.at λo e=>up _ o D.i2z e) gt s8 λc o c1 c2 c3 c4 e=>up c o c1 (kp c o c1 c2 c3 c4 e)
def VM[?LH]{u v:Value}{Q:PySem.Fin->?i5}[?MC][?L4] (gx:?a9f) (k:∀h' e,?FW->?aJ3) : ?asL ?ab ?aXN:=by ext ao6;ext anw;ext apV;apply ?q (T6 hn ?aiu ?aJE gx λk2 e w2 he=>?_);let#[oe,ge,ce]:=he;let gz2:?avf k2 ?CS:=w2 _ _ ?afY gz1;(let ne:e≠z:=λq=>by subst q;rw[gz2]at ge;cases ge;simp at ce);apply qm0 gz2 ?G λk3 _ w3=>k k3 e (λc o c1 _ c3 _ q=>?azE c1 w2 q) #[oe,?jZ _ _ ne ge,ce]
def CP[?LH]{x y u v:Value}[?AI][?L4] [?arZ] (k:?aui ?aYV):?amm:=by ext aps;show ?atU zb9 (?b73 (sQ D gz ga gb g1 g2 e1 e2 gx gy λh' a1 a2 a3 a4 a5 a6 a7=>qc6 (k h' a1 a2 a3 a4 a5 a6 a7)))
def EW[?LH]{u v:Value}[?AI][?MC][?L4] (gx:?a9f) (k:∀h',?FW->?aNC):?amm:=by ext aps;apply ?atU zb9 (?b73 (VM hn D gz ga gb g1 g2 e1 e2 gx λh' e kp he=>?_));let ?IP:=he;show ?avC kp
universe e9
meta abbrev zt1[?cj][?cb]:Heap:=?PZ ?aXK
meta abbrev zt2[?cj][?j4]:Heap:=(zt1 h a).push { cls:=?b3a ?cV,data:=?b0s ?bT }
meta abbrev zt3[?cj][?j4]:Heap:=?azH ?aEF (?I ?HU) (?I (zt1 h a).objs.size)
meta abbrev zt4[?cj][?j4]:Heap:=?azH ?aCn ?aS ?aS
meta abbrev zt5[?cj][?j4]:Heap:=(zt4 h a b).push { cls:=?Ca,data:=?eG #v[?aS,?K3,?K3,?I (?aEF).objs.size,?I (?aCn).objs.size] }
def vM[?j4](xs ys:?dE):?Di (Builtin.«zip.__new__» #[[?Ca,?R,?bT],[]]) (λ_ R s=>?ac3/\?aia/\?axF ?a4C ?XA) :=.of_wp λprog w A R s h=>by ext M0;let#[?Q,h]:=h;let hsub:=sub_zip;let g1:?XD ?aXF a xs:=h1;let g2:?XD (?aPr #[hp.push ?aXK,g,d,tk,os]) b ys:=Heap.IsTuple.push h2 _;wp_walk using qr3 g1,qr3 g2;show ?a4k
section
variable[?dO][?bW][?bC]
def UT{a b:Addr}{xs ys:?dE}[?bb](h1:?ac3)(h2:?aia) (k:∀h',?eZ h' ?CU ?wg ?Gh ?aS->?cQ h' ?wg ?bV ?a4A → ?cQ h' ?Gh ?aS ?aS->?tZ ?aG a 0->?tZ ?ba b 0->?b6f ?aMD → (∀c o,?Zp)->Q (?I ?CU) ?f7):?asL ?ab (?fB ?Ca ?W2):=by apply ?aiw F.called_zip ?L (F.typeCall_zip_2 _ _) (F.newCall_zip_2 _ _) (λobj=>F.args_object_init_3 obj _ _) F.entry_zip_new (vM a b xs ys) #[?Q,?_];let z1:?aUR=?ba:=?W6;(let z2:?aTu=?wg:=?afN);(let z3:?alA=?Gh:=by rw[ql3,z2]);(let z4:?a4C=?CU:=by rw[ql3,z3]);(let z5:(?XA).objs.size=?aMD:=by rw[ql3,z4]);let q5:?b1c ?a4C:=?eS;let q4:?b1c ?alA:=?Wu;let q3:?b1c ?aTu:=?aIz;let q2:?b1c ?aUR:=?al9;let q1:?b1c ?aG:=?avR ?al9;exact _/\_;rw[z2,z3,z4]at q5;rw[z1,z2]at q3;rw[z3]at q4;rw[z1]at q2;rw[z4];show#[(?b6t q5),k _ q5 q3 q4 #[_,q1,?V] #[_,q2,?V] z5 λc o x=>?avR (qa8 _ (qa8 _ ?aI5))]
universe e9
def tup_cell[?d1]{j t:Addr}{n:Nat}(g:?n8 j t n):?ahV:=?a9z
abbrev yV[?n][?j4]:It:=vC ?aHJ ?aEQ a b
def SR[?b6][?E][?it](a b z TI TO i1 i2:Addr)[?a6F] :
 ?b4N ?Kl ?n8 ?n8 where
 mem:=?c2
 obj:=?b0C ?abV ?Js
 keep:=λi h h' ?CA k=>by
  ext aoa
 item:=by
  ext cZ;ext LN;have ?anG:=hg;ext apj;ext aqF
  show CP D hz hTI hTO h1 h2 ?aUX ?agP (x:=u) (y:=v) ?pw ?ra λh' hz' XZ jS h2' htup hsz hk =>
   JT (Y:=?b2v yV) (T:=?b6J ?n8 ?n8) D I hf hz hTI hTO ?abV ?Js ru rv hz' XZ ?n7 hk ?aPf (?ato ?IY ?IY)
 done:=by
  ext cZ;ext LN;have ?aR9:=hg;ext apj;let la:=ra.length;let lb:=rb.length;apply ?b5l EW ?aUX ?agP
  . simp;show ?nI la hx
  . ext aq0
 self:=?anE
inductive zD[?n][?pN]:Prop| mk:∀a b,?iU->?Zb->?avX ((∃ys,SqT K H1 b ys)) ?Kl ?aFD
abbrev Bl1[?n](ta:TA):TI:=?asY ?aFD
def pJ:?aPH:=?cX
def Ab3{X:Cx}[?E][?it][?apI][?bJ][?a5H] : ?b4c ?ajh Bl1:=by subst hK;ext kV;apply ?atu pJ ?N0;ext aql;cases r1 with| cons ra rr =>cases rr with| cons rb rr =>cases rr;cases ra;cases rb;let ?agg:=?IS aW;let ?aPi:=?IS UC;(let a1:?a9w:=by let ?GG:=pa;ext eL);(let a2:?alR:=by let ?GG:=pb;ext eL);apply UT (show ?Kq la ?aat from pa) (show ?Kq lb ?aCF from pb) ?aRL;apply ?au6 SR
section
variable[?ka][?gU]
def UR[?E][?pO][?asA][?ek][?apz] [?a5E]:?asP ?Kl tc:=GZ (NE:=?aEQ) ?g ?g (qk4 hn.1) Pv h0 hl hs hd
universe e9
section
variable{κ:Type}[?aOh κ]
abbrev S0[?AM]:?fw:=(kvs.find? ?PP).map (·.2)
abbrev O5[?AM](v:V):?p1 :=if ?auy ?Cb then ?lG (?avq (?f1,v)) else kvs++[?fQ]
abbrev DK[?AM]:?p1:=kvs.filter λkv=>?w (?f1≠k)
def BN[?arj](e:?d8):?aiR=?qW:=?ah8
def bO[?arj](e:¬?d8):?aiR=S0 r k:=?ah8
def jW(k:κ):∀kvs:?p1,?Cb=(?kO).isSome| []=>rfl| p::r=>by rw[qp8];ext kb;{simp only[BN e,qf0 e,Bool.true_or,Option.isSome_some]};rw[bO e,qj6 e,Bool.false_or];show jW k r
def Ua[?AM](v:V):?ajQ<=?b9U 1:=by unfold O5;split;{rw[qa3];ext d};rw[qb6,qd5,qj9];ext d
def Qv.isSome_eq[?B1]{u:?jS}(r:Qv o u):o.isSome=u.isSome:=by
 cases o with
 | none=>cases u with
   | none=>rfl
   | some _=>ext tz
 | some _=>cases u with
   | none=>ext tz
   | some _=>rfl
def Qv.getD[?B1]{u:?jS}{d:V}{d':Value}(r:Qv o u)(rd:?c8 d d'):?c8 ?adT (u.getD d'):=by
 cases o with
 | none=>cases u with
   | none=>show rd
   | some _=>ext tz
 | some _=>cases u with
   | none=>ext tz
   | some _=>show r
def KV.val[?pL](k:κ):Qv ?kO ?K9:=by unfold KV at r;induction r with| nil=>show True.intro| @cons p q ps qs h t ih =>let ?cR:=h;ext kb;{let e':?zF:=?wd;(let b:?aDb=?i q.2:=?a8E);rw[BN e,b];show h2};ext a5s;(let b:?aDb=?a1E qs k:=?a8E);rw[bO e,b];show ih
def KV.any[?pL](k:κ):?Cb=?aep:=by unfold KV at r;induction r with| nil=>rfl| cons h t ih=>rw[qp8,qp8,ih,h.1]
def KV.repl[?pL](k:κ){y:V}[?bc][?mf] : KV ?a8A (?PQ (?avq (?f1,u))):=by unfold KV at r ⊢;induction r with| nil=>show ?aH| @cons p q ps qs h t ih =>rw[qd7,qd7];apply ?afv;let ?cR:=h;ext kb;{rw[?cF,?A ?wd];show#[h1,ry]};rw[?iE,?s ?SM];show ?cR
def KV.put[?pL](k:κ){y:V}[?bc][?mf]:KV ?ah4 (?RD vs k u):=by unfold O5 stored;rw[r.any k];cases e:?auy ?aep;{rw[?cF,?cF];show ?aNI};ext AV;show ?aWD r #[?h,ry]
def KV.drop[?pL](k:κ):KV ?RY (without vs k):=by unfold KV at r ⊢;unfold DK without;induction r with| nil=>show ?aH| @cons p q ps qs h t ih =>let ?cR:=h;rw[ql8,ql8];ext kb;{(let a:¬?aTz:=?aKY);(let b:¬?aj1:=by simp[?wd]);rw[?Hg,?uT];show ih};ext a5s;(let a:?aTz:=?aKY);(let b:?aj1:=by simp[e']);rw[?GC,?A b];show ?af ?cR ih
def KV.keys[?pL]:?lG (·.1)=?PQ (·.1):=by unfold KV at r;induction r with| nil=>rfl| cons h t ih=>rw[qd7,qd7,ih,h.1]
def KV.length[?pL]:kvs.length=vs.length:=?WJ r
def YH[?AM]:?asa ?RY kvs.length:=?a1j
universe e9
def kV_is[?b6]{k:Key}[?bc](r:?JQ):?aJA:=by cases k with| inl i=>ext aqm;subst e;show LP P w i t| inr x=>ext aqn;subst e;show lP P w x t
def GG[?b6]:∀{ks:?n9}[?bs],?b2G ?aim->ItemsAre ?kp ks us| [],_,r=>by rw[qu5]at r;cases r;show ?aH| k::ks,_,r=>by rw[qd7]at r;cases r with| cons h t=>show ?af (?E9 h) (GG t)
meta abbrev KT(H:Hp):?asf ?sc ?IA:=?l7 λp q=>?akT
def KT.val{H:Hp}[?L7](k:?n9):Qv ?kO (?aIV (·.2)):=by induction r with| nil=>show True.intro| @cons p q ps qs h t ih =>let#[h1,_,h2]:=h;ext kb;{let e':?zF:=?wd;(let b:?aBH=?i q.2:=?aSS);rw[BN e,b];show h2};ext a5s;(let b:?aBH=atKey qs k:=?aSS);rw[bO e,b];show ih
def KT.repl{H:Hp}[?L7](k:?n9){y:V}[?bc][?mf] : KT H ?a8A (?ow (putAt k u)):=by induction r with| nil=>show ?aH| @cons p q ps qs h t ih =>rw[qd7,qd7];apply ?afv;let ?TB:=h;unfold putAt;ext kb;{rw[?cF,?A ?wd];show#[?Q,ry]};rw[?iE,?s ?SM];show ?TB
def KT.put{H:Hp}[?L7](k:?n9){b:Addr}{y:V}[?bc](hb:?OB)[?mf] : KT H ?ah4 (storedH xs k b u):=by (let e:?Cb=?aDk:=by rw[jW,(r.val k).isSome_eq,Option.isSome_map]);unfold O5 storedH;rw[e];cases q:?auy ?aDk;{rw[?fF,?fF];show ?aNI};rw[?dI,?dI];show ?aWD r #[?h,hb,ry]
def KT.keeps[?bF][?L7](ht:∀b ys,?b2e (?i ?vO) (?i ?vO)):KT H' kvs xs :=?ZD r λ_ _ z=>?adh
section
variable[?b6]{H:Hp}[?d1][?av]
def Al4{u:HO}[?pc](e:?aUa):?aRI:=e.ok ok
def Wd[?fg][?pc][?M8]:?a1s :=?auk (?b6D H h ?fa) ?aKf
def rJ[?fg][?pc][?AX]:?a1s:=Wd ok ?xc
def JA{ks:?n9}[?pc](e:?b0u ?aOK):?aPn h ks a:=by have#[_,?fq,o,?Q,_,n,h3]:=(?b72 ?aOK ok);show#[o,?bO,n,?Q,h3,?b6g (GG r)]
def mE{kvs:?sc}[?pc](e:?OV):?aJw:=by have#[z,y,xs,r,o,?az,?Q,?eM,h5]:=(?auk (?b6D H h ?tb) ?aKf);apply#[z,y,xs,r,o,?az,?Q,?eM,?xr,h5];(let all:∀{l:?sc}{m:?IA},KT H l m->∀x∈m,?aPn h x.1 ?tW:=by intro l m q;induction q with| nil=>intro x hx;show nomatch hx| @cons p q ps qs hq t ih =>intro x hx;rcases ?iS hx with e | hx;{subst e;show JA ok (by rw[←hq.1];show hq.2.1)};show ih x hx);show all r x hx
def Br7{kvs:?sc}[?pc](e:?b0u ?tb):?aJw:=mE ok ?xc
universe e9
abbrev DGet(H:Hp)[?cb](y:V)(r:?fw):Prop :=(∃kvs k,?vd/\y=?lb/\r=?kO)\/∃kvs k b,?OV/\?nq/\?OB/\r=?kO
abbrev A87(H:Hp)[?cb](y v:V)(H':Hp):Prop :=(∃kvs k,?vW/\y=?lb/\?b8F (.dK ?a0B)) ∨ ∃kvs k b,?b0u ?tb/\?nq/\?OB/\?b8F (.dT ?a0B)
section
variable{X:Cx}[?aR][?av]{y v:V}{u r:Value}[?B1][?bW]
def Bo.big[?B]:?atO sysModules:=by let h:?atO mainGlobals:=(?aI6).lt;show qd8 ?L h
def uR[?bb][?a6w][?B](g:?rj H a y ?aW)[?mf](h:∀w' s',?zc->?a9O) : ?asL ?a3 (?py ?R u):=by ext aq3;{subst ey;apply ?eX;let ?lA:=?k8;apply ?ej;let ?Um:=?b7Y ?ahe;show wpAny_getItem_of ?A2 ?an3 hw ?aZ2};ext ap7;let ?Um:=?B4 (v:=v) (o:=?aIV (·.2)) ?ahe;have#[p,hp,hp2]:=?QX hw;apply wpAny_getItem_heap ?a2D ?SW dd hp ?_;rw[hp2];show ?aZ2
def BI{h':Heap}[?jA]{ob:HO}[?B](mu:Mut ?b0)(hs:?aC2)(he:?Uz)(new:?cY ?bU X.w ?a8C h' a ob) : ?asO ?a8C ?sW :=?Ij (x:=a) (e:=a) mu ?cB (λb q hb z=>?axp b hb z) he new
def dM[?b6]{H':Hp}{h':Heap}[?fg][?Lx](z:?v8)(hd:?mv)(rel:?qn)(dd:?anq ?kp a vs) : ?b6D H' h' ?fa:=?lA
def UQ{H':Hp}[?pU][?a6w][?B](g:A87 H a y v H')[?mf](rv:?c8 v r)(h:∀s',?qd->?ED) : ?asL ?a3 (?RF ?R u r):=by rcases g with⟨kvs,k,e,ey,l,eH⟩|⟨kvs,k,b,e,ey,eb,l,eH⟩;{subst ey eH;apply ?eX;let ?lA:=?Yy;apply ?ej;(let hz:?asp vs.length:=?Yt);(ext apc);apply wpAny_setItem_pairs (hsz:=hz) ?A2 dd ?aUt;let he:?Uz:=?Q8;show ?azu hl (rel.put k rv)};subst ey eH;cases ?aVB;have ?aVW:=Br7 ?bL e;(let hz:?kR:=by rw[←?WJ rel];show z);(ext apc);apply wpAny_setItem_heap (hsz:=hz) ?a2D ?SW dd ?aUt;have#[q,?az,hq,?mj,_,h5]:=vJ;apply BI I ?xa hs #[q,hq] #[hl,hd,_,(rel.put k eb rv).keeps λc ys ec=>?_,q,?az,hq,?mj,h5];rw[Aj (F8 ec e ?l4)];show ec
universe e9
section
variable{X:Cx}[?aR][?av][?fg]{k:Key}[?bc][?bW]
def Br9{v:V}{more:?b4}[?bb][?B][?AX](ry:?JQ)(l:?kO=?aW)(hm:more=[]\/∃x,more=[x]) (h:∀w' s',?b9e ?aVR ?a9O):?asL ?a3 (?fB ?aU2 ?alb):=by let ?lA:=?Yy;let ?Um:=?b7Y ?ajP;ext ao8;(let ha:argsOk ?aXx #[?alb,[]]:=by rcases hm with q|⟨x,q⟩;{subst q;show PySem.F.args_dict_pop_2 _ _};subst q;show ?aTY);apply ?vf qz3 ?vK ?aiH ha (meets_dict_pop_there ?iO a ?A2 more hm hp) #[vs,w',dd,?Yt,hw,?b1N (h w' _ ?_ rw')];let he:?Uz:=?Q8;show ?azu (?m (YH kvs k) z) (rel.drop k)
def A65{r:Value}[?bb][?B][?AX](ry:?JQ)(l:?aW9)(h:∀s',?zc->Q r s') : ?asL ?a3 (?fB ?aU2 ?abL):=by let ?lA:=?Yy;let hn:?azZ ?K9:=?ael ?ajP;ext ao8;show ?vf qz3 ?vK ?aiH ?aTY (meets_dict_pop_default ?iO a ?A2 hd hp r) #[vs,dd,hn,h _ ?lw]
def Bs0[?bb][?B][?M8](h:∀t s',?zc->Q (?t ?v9 t) s'):?asL ?a3 (?fB ?Gl ?e5):=by let ?lA:=?k8;apply call_len_dict hd dd (by ext Ag;rw[sizeLine_eq]at z;ext d) ?_;ext Ag;show h _ _ ?lw
universe e9
abbrev NoSl(i:Expr):Prop:=∀ov iv,?H9 i ?cx ov iv=?Rt [ov,iv] (?py ov iv)
def zW[?dO][?bW][?bC]{env:Env}{value slice:Expr}[?bX]{T id:String}[?bb] (hl:?agy) (hs:NoSl ?qN) (h:?p ?ab A (?b7U ?kE) (?b09 (?b7U ?qN) (λi s₂=>s₂.TypeIs o T/\?p ?ab A ?aJk Q E s₂)) E s) : ?asL ?ab (?b7U (?rZ ?kE ?qN ?H)):=by apply ?Oc (qo2 h (λo s₁ h₁=>qo2 h₁ (λi s₂ h₂=>?_) ?Dw) ?Dw);let#[hT,h₂]:=h₂;unfold subscriptTail;apply ?iR;rw[getitemInPython_of_ne hT.not_modules];apply ?avE wpAny_specialOf hT hl;(let fin:?p ?ab A (?H9 ?qN ?cx o i) (λr s₃=>?p ?ab A (letTemporaryGo ?kE o r>>=λ_=>?bo r) Q E s₃) E s₂:=by rw[hs o i];show wpAny_operating (qo2 h₂ (λr s₃ h₃=>?q (wpAny_letTemporaryGo (qc6 h₃))) ?Dw));first| show ?alW| show ?q ?alW| show ?aTN
def mF{X:Cx}[?aR][?av]{y:V}[?B1][?B](g:?aIq):?a0s:=by rcases g with⟨kvs,k,e,_,_⟩|⟨kvs,k,b,e,_,_,_⟩;{let#[_,_,vs,_,dd]:=?k8;show dd.typeIs};let#[_,_,xs,_,dd]:=?Zv;show dd.typeIs
inductive yY(Q:VK)(x:V)(y:V)(H2:Hp):Prop| mk:∀a v,?d4->(?rj H2 a y ?aW)->(Q v H2)->?aES
abbrev Bf3(td ty:TE):TE:=?asJ td (?b44 ty ?aES)
inductive yZ(D:Ends)(σ:St)(v:V)(x:V)(y:V)(H3:Hp):Prop| mk:∀a H4,?d4->(A87 H3 a y v H4)->(?lg σ H4)->?ajU
abbrev Bg3(td ty tv:TE):TS:=?auZ tv (λv H1=>td σ H1 λx H2=>ty σ H2 λy H3=>?ajU)
section
variable{X:Cx}{o i e value:Expr}{pos pos' tpos:Pos}{td ty tv:TE}
def N9[?a5y](hi:?aAQ)(hs:NoSl i):?au2 ?Qt (Bf3 td ty):=by ext bE;apply zW PySem.F.slot_dict_getitem.lookup hs (E6 ?DG λu s1 ?agH=>?abA);let#[y,?d2,ry,a,v,ex,g,q2]:=_z;ext mP;show#[mF I2 g,uR hu I2 g ry λw' s3 I3 rw'=>#[v,H2,I3,rw',q2]]
def BC[?a5y](hi:?aAQ)(hv:?aNY)(hs:?azv ?aKo) : PS X (?uu [?aKo] ?kE ?H) (Bg3 td ty tv):=by ext hY;apply wpAny_Assign_Subscript (E6 ?acY λr s1 #[v,?aE,rv,q1]=>?b76 ho (λu s2 #[x,?d2,rx,q2]=>E6 (?av0 hi) λiv s3 _z=>?_)) hs;let#[y,?et,ry,a,H4,ex,g,q3]:=_z;ext mP;show UQ hu I3 g ry rv λs4 I4=>#[σ,H4,I4,q3]
universe e9
def dk_empty[?b6]{H:Hp}[?cj](hb:sysModules<h.objs.size):?cY P w H (?PZ ?aNA) ?HU ?y6 :=#[?a5,?qT (?hF (qf1 hb)),[],?aH,?aFo h]
abbrev Au0:TE:=λ_ H Q=>∀p,?bZ->Q ?aK ?aM3
section
variable{X:Cx}[?bX]
def Ia:?au2 (.Dict [] [] ?H) Au0:=?b9S wpAny_Dict_empty #[?bV,_,?avm ?y6 ?ZR ?aCI,?h,h _ ?kS]
universe e9
abbrev tPairs:?yA->?b3k ?adg| [],_,H,Q=>Q [] H| (tk,tv)::r,σ,H,Q=>tk σ H λx H1=>?b44 tv (?V5 r σ H2 λps H3=>Q ?aJr H3)
meta abbrev VV:?avK V V->?avK Value Value->Prop:=?l7 λp q=>?c8 ?v q.1/\?aQb
abbrev PPs(X:Cx)(pos:Pos)(keys:?a2w)(values:?dD)(zR:?yA):Prop :=∀[?c3] (Q:?adg),?bQ->?b3b ?V5 zR → ?asI (evalPairs (pairTrees keys ?S5 ?T ?H)) (λvs s'=>∃ps H',?qd/\VV ps vs/\?b9D ps)
def Yr{X:Cx}[?bX]:PPs X ?H [] [] []:=λAe s σ H Q I h=>pairTrees_nil_walk ?aRB
def P3{X:Cx}[?bX]{k v:Expr}{ks:?a2w}{vs:?dD}{tk tv:TE}{zR:?yA}(hk:?au2 k tk)(hv:?au2 v tv)(hr:PPs X ?H ks vs zR) : PPs X ?H (?Bo::ks) ?qu ((tk,tv)::zR):=?b9S pairTrees_cons_walk (E6 (?asq hk _) λu s1 ?agH=>?b76 hv (λw2 s2 ?a3u =>E6 (?av0 hr) λws s3 #[ps,?et,rel,q3]=>#[?aJr,?et,?af #[rx,ry] rel,q3]))
abbrev Jv(kvs more:?gC):?gC:=more.foldl (λacc kv=>O5 acc ?f1 kv.2) kvs
def KV.merge:∀{more:?gC}{rs:?FC}[?fg][?Lx],KV more rs->?qn->KV ?a0n (merged vs rs):=by intro more rs kvs vs r;unfold KV at r;induction r generalizing kvs vs with| nil=>intro q;show q| @cons p q ps qs h t ih =>intro r0;(let e:KV ?ws (?RD vs q.1 q.2):=by let:=r0.put ?v h.2;rw[←h.1];show this);show ih e
def O7:∀(more kvs:?gC),?asa ?a0n (?b9U more.length)| [],kvs=>by exact ?b89 (?b9U 0);(ext d)| p::r,kvs=>by let h1:=O7 r ?ws;let h2:=?b0R Ua kvs;exact(Jv ?ws r).length<=_;rw[qd5];ext d
def DU[?b6]:∀[?fg]{ws:?avK Value Value},VV (?lG ?aXs) ws->∃rs,Carries ?kp ws rs/\KV kvs rs| [],_,r=>by rw[qu5]at r;cases r;show#[[],?zO,?aH]| p::kvs,_,r=>by rw[qd7]at r;cases r with| @cons a b as bs h t =>let#[rs,c,q]:=DU (P:=P) (w:=w) t;let ?Tr:=b;show#[(?v,b2)::rs,#[?E9 h.1,?h,c],?af #[?h,h.2] q]
abbrev Bf2(zR:?yA):TE:=λσ H Q=>∀p,?bZ->?V5 zR σ ?aM3 λps H2=>H2 p=?i ?y6/\∃kvs:?gC,ps=?lG ?aXs/\?b89 15/\Q ?aK (?C H2 p ?Gd)
def Yu{X:Cx}[?bX]{keys:?a2w}{values:?dD}{zR:?yA}(h:PPs X ?H keys ?S5 zR)(hall:keys.all (·.isSome)=true)(hl:keys.length=values.length)(h0:keys≠[]) (h15:keys.length<=15):?au2 (.Dict keys ?S5 ?H) (Bf2 zR):=by intro Ae s σ H Q I q;let hn:=?ob (qa5 ?aG);let I1:=?ij (a:=s.heap.objs.size) (o:=?y6) (h':=?FT) (t':=s.toks) ?ZR ?l ?aCI;apply wpAny_Dict_walk (knd:=?iO) hall hl h0 h15 (E6 (h Ae _ σ _ _ I1 (q _ hn)) λws s2 _z=>?_);let#[ps,?d2,rel,e,kvs,ep,lk,q2]:=_z;subst ep;have#[rs,c,rk]:=DU (P:=X.prog) (w:=X.w) rel;have#[z,hd,vs0,r0,dd]:=rJ I2.hok e;cases r0;apply#[rs,c,dd,?b1N #[?bV,_,?_,?h,q2]];(let hz:?aey:=by let h1:=?afn;rw[qj9]at h1;rw[sizeLine_eq];ext d);let he:∃q,?sp=?e2:=?Q8;show BI I2 ?xa hs he (dM hz hd (rk.merge ?aH) vJ)
structure M2(X:Cx)(o:Expr)(m:Str)(apos:Pos)(e f:Expr)(cpos:Pos):Prop where
 base:?b8Y m
 few:((?aUF).all ?aH3&&?b59 ?Yw
  && ?w ((?JX:?dD).length+?an7+?aH5<30))=true
 line:?agQ
 trees:?aUF=[?a0p,(?cx,?b4G f)]
abbrev IsD(H:Hp)[?cb]:Prop:=(∃kvs,?vd)\/∃kvs,?OV
def XR{X:Cx}[?aR][?av][?B](d:IsD H a) : ?a0s/\(∀b,?ps=?bT->∃ob,?vL=?nr/\?agU)/\?mv:=by rcases d with⟨kvs,e⟩|⟨kvs,e⟩;{let#[_,hd,vs,_,dd]:=?k8;apply ?aXR;cases q;let ?aMg:=dd;show ?aUU};let#[_,hd,xs,_,dd]:=?Zv;apply ?aXR;cases q;let ?aMg:=dd;show ?aUU
section
variable{X:Cx}[?aR][?av]{y d:V}{u r:Value}[?B1][?bW]
def A66[?bb][?a6w][?B](g:?aIq)[?mf](rd:?c8 d r)(h:∀w' s',?zc->?c8 ?adT w'->Q w' s') : ?asL ?a3 (?fB (?di "dict.get") ?abL):=by ext aq3;{subst ey;apply ?eX;let ?lA:=?k8;apply ?ej;apply ?b7N (meets_dict_get_default ?iO a ?A2 hd r) #[_,?an3,?ait];rw[l];show ?b2t k};ext ap7;apply ?b7N (meetsH_dict_get_default (?aNt ?iO) a b hd r) #[?a2D,k,xs,?SW,dd,?ait];rw[l];show ?b2t k
universe e9
inductive ItDGet2(ty:TE)(tx:TE)[?pg][?fk]:Prop| mk:∀a,?d4->?amq->(?b44 ty (tx σ H2 λz H3=>∃o,?rj H3 a y o/\Q (o.getD z) H3))->?adA
abbrev Au1(td ty tx:TE):TE:=?asJ td ?adA
abbrev At9(td ty tx:TE):TE:=?asJ td (∃a,?d4/\?amq/\?b44 ty (tx σ H2 λz H3=>∃kvs k,H3 a=?zD/\y=?lb ∧ (∀v,?kO=?aW->Q v (?C H3 a ?aVR))/\(?aW9->Q z H3)))
section
variable{X:Cx}{o e f:Expr}{apos cpos:Pos}{td ty tx:TE}
def Ld[?a5y](he:?alB)(hf:?aPX)(m:?b2B "get"):?au2 (?b45 o "get" ?JX) (Au1 td ty tx):=by ext bE;apply ?axn qz4 PySem.F.type_dict_get;let ?aEm:=_z;ext mP;ext aqH;apply ?b3w (λfv s3 #[z,?et,rz,ov,g,q3]=>?Ol);show A66 hu I3 g ry rz λw' s4 I4 rw'=>#[_,H3,I4,rw',q3]
def wN(ho:?aXo)(he:?alB)(hf:?aPX)(m:?b2B "pop"):?au2 (?b45 o "pop" ?JX) (At9 td ty tx):=by ext bE;apply ?axn qz3 PySem.F.type_dict_pop;let ?aEm:=_z;ext mP;ext aqH;apply ?b3w (λfv s3 #[z,?et,rz,kvs,k,ea,ey,q3,q4]=>?Ol);subst ey;cases l:?kO with| some v=>show Br9 I3 ea ry l (?y #[fv,?h]) λw' s4 I4 rw'=>#[v,_,I4,rw',q3 v l]| none=>show A65 I3 ea ry l λs4 I4=>#[z,H3,I4,rz,q4 l]
universe e9
section
variable{X:Cx}[?aR][?av][?fg][?bW]
def YL[?bb][?B][?M8](h:∀p s',?bZ->?asO ?aCm s'->Q ?aK s'):?asL ?a3 (?fB ?r0 ?e5):=by let ?lA:=?k8;apply kt_call_dict hd dd ?Yt (?b1N ?_);apply h _ _ ?kS (?avm ?fa (λb q hq=>?_) (dM z ?a8F rel vJ));show(?og b (?b6a hq)).trans (?avR hq)
universe e9
section
variable{X:Cx}[?aR][?av]{y:V}[?bc][?bW]
universe e9
section
variable{X:Cx}
def uV:?asW ?Gl (∃a kvs,xs=[?kQ a]/\?vW/\Q ?aie H):=by ext el;let#[a,kvs,?h,ha,q]:=h;ext a6C;show Bs0 I (?x ha) λt s' I'=>#[?aie,H,I',?dv,q]
universe e9
universe L2
namespace L2
open PySem PySem.Spec PyProof.Rows PySem.SeqAt
abbrev cK[?fe]:?gC:=?b2H (?BI,?aB p.2)
abbrev lookI[?fe](k:Int):?fA:=(ms.find? ?nQ).map (·.2)
inductive Sq:?asf (?a6 ?GN) ?i4| nil:Sq [] []| cons {e:DictEntry}{k v:Int}[?Ad][?gY]{t t':Tok}:?a7N->?am1->?aZ3->?zU->Sq ?ez (?fQ::ms)
def Sq.length[?Ad][?gY](h:?zU):es.length=ms.length:=by induction h with| nil=>rfl| cons _ _ _ _ ih=>simp[ih]
def Sq.get[?Ad][?gY](h:?zU):∀{i:Nat}{e:DictEntry},es[i]?=?L1->∃k v t t',?yf=?W1/\?a7N/\?am1/\?aZ3:=by induction h with| nil=>intro i e q;simp at q| @cons e0 k v es ms t t' h1 h2 h3 _ ih =>intro i e q;cases i with| zero =>(let:e0=e:=?k1);ext er;show(?b2x ?G h3)| succ i =>let#[k',v',t1,t2,q1,q2]:=ih (i:=i) (e:=e) ?k1;show#[k',v',t1,t2,?a9g,q2]
def Sq.find[?Ad][?gY](h:?zU)(k:Int):es.findIdx? ?aBJ=?aSv ?nQ:=by induction h with| nil=>rfl| @cons e0 k0 v es ms t t' h1 h2 h3 _ ih =>rw[zb6,zb6,h1,ih];(let e:?oG k (?t k0 t)=?w (k0=k):=by cases q:k0=k;{subst q;simp[Value.isInt]};simp[Value.isInt,q];try show ?a2u);rw[e]
structure Qw[?cj][?cb][?fe]:Prop where
 ex:∃o es ep,?ya/\o.ExactDict/\?yv/\?aUJ
 sys:?mv
 nd:(?bY (·.1)).Nodup
def Qw.typeIs[?bC][?av][?gY](x:?pz):?a0s:=let #[o,_,_,ho,hc,_]:=x.ex;#[o,ho,hc.1]
def ON[?gY]{k:Int}(h:?azZ ?PN):?ajS:=by unfold lookI;rw[List.findIdx?_eq_none_iff]at h;rw[List.find?_eq_none.mpr (?awc (by let:=?b7u h;ext he))];rfl
def oN[?gY]{k:Int}{j:Nat}(h:?PN=?gk):∃v,ms[j]?=?W1/\?Q9:=by induction ms generalizing j with| nil=>simp at h| cons p ms ih =>rw[zb6]at h;cases q:?d8;{rw[qf0 q,?K]at h;cases h;apply#[p.2,by simp[←q],?_];unfold lookI;rw[?b0L ?k1];rfl};rw[qj6 q,?yL]at h;cases h2:?PN with| none=>rw[h2]at h;cases h| some j' =>rw[h2]at h;(let e:j=j'+1:=by simpa using h.symm);subst e;let#[v,?eM]:=ih h2;apply#[v,?aln,?_];unfold lookI at h4 ⊢;rw[?b0M ?k1];show h4
def Ah5(fs:?Hj)(p:?GN->?ft):?RI p=fs.toList.findIdx? p:=by cases fs;simp
def Bl0[?dO][?bW][?bC][?mq]{t u:Tok}{Q:?ahO}(h:Q ?a2R s):?asL ?ab (eqBool ?aIl ?aZf) :=(?Cq).eqBool (?axE x ?aIl) (?axE y ?aZf) h
def A19[?dO]{es:?Hj}[?gY](h:?aUJ):KeysOf ?Cq es:=by intro e he;let ?eO:=Array.mem_iff_getElem.mp he;let(?b2x _ _):=h.get (i:=i) (e:=es[i]) (by simp[hi]);show#[k,by exact ?ayI ?oG k _;rw[h1];simp[Value.isInt],h2]
def Yp[?dO][?bW][?bC]{id:String}{a b:Addr}{ms ns:?i4}{Q:?ahO}(ha:?pz)(hb:?D2) (h:Q ?tS s):?asL ?ab (?SK id a b):=by let#[oa,?az,hoa,_,hda,hea]:=ha.ex;let#[ob,fs,ZM,hob,_,hdb,heb]:=hb.ex;(let la:es.size=ms.length:=by rw[←hea.length];simp);(let lb:fs.size=ns.length:=by rw[←heb.length];simp);unfold Builtin.Dict.samePairs;(let sh:∀{c:Addr}[?pU],?awB (c==sysModules)->Q () s->?asL ?ab (Builtin.Dict.showsAll c):=λ{c Q} hc hq=>by unfold Builtin.Dict.showsAll;rw[?s (by rw[hc];show qf5)];show ?adC);apply ?q (sh ha.sys (?axI sh hb.sys));apply ?q (qz2 hoa hda ?akr);cases hl:ms.length=ns.length;{rw[?s (by simp[la,lb,hl])];(let e0:?auy ?Z1:=?aPC);rw[e0,Bool.true_and]at h;apply ?avE wpAny_dictEpoch hoa hda;rw[Std.Legacy.Range.forIn_eq_forIn_range'];apply ?q (qo2 (wpAny_forIn_list _ (λrest r s'=>s'=s/\r=(?aO,())/\∃i,rest=?QF i ?ab5 1/\?Jc/\∀p∈?xG,?ai2) (λr s'=>s'=s/\((r=(?aO,())/\?auy ?V0)\/(r=(?i ?cx,())/\?awB ?V0))) ?_ ?_ _ _ #[?V,0,?_,?a5,?G]) (λr s' hr=>?_) ?DV);{rintro i rest r s' ⟨rfl,rfl,i1,hr,hi,hd⟩;(let hlt:i1<ms.length:=by ext pY;rw[?ass (?aDo=0) Nat.sub_eq_zero_of_le z]at hr;cases hr);rw[?ass (?aDo=(?b6c (i1+1))+1) ?aAv hlt,List.range'_succ]at hr;cases hr;let hie:i<es.size:=?g;let(?b2x hm h3):=hea.get (i:=i) (e:=es[i]) (by simp[hie]);(let hmi:?rD=?fQ:=by rw[qa0 hlt]at hm;show qb1 hm);apply ?avE qz2 hoa hda;rw[?aAI hie];dsimp only;apply ?q (qo2 (Q:=λsame s''=>s''=s'/\same=?w ?aDI) ?GI (λsame s'' hs=>?_) ?DV);{rw[h1,h2];apply ?q (wpAny_dictFind_of (knd:=?Cq) (k:=k) (show ?ayI ?oG k ?abT from by simp[Value.isInt]) hob hdb (A19 heb) ?_);(let ef:(?RI λe=>(?Cq).is k e.key)=?aD6 ?nQ:=by rw[←heb.find k];exact ?RI ?aBJ=_;show Ah5 _ _);rw[ef];cases hf:?aD6 ?nQ with| none =>dsimp only;apply qc6 ?QK;rw[ON hf];rfl| some j =>let#[v',hj,hl2]:=oN hf;let hjn:j<ns.length:=?a4b;let hjf:j<fs.size:=?g;let#[k2,v2,t2,t2',hm2,g1,g2,g3]:=heb.get (i:=j) (e:=fs[j]) (by simp[hjf]);rw[hj]at hm2;cases hm2;dsimp only;apply ?akr;rw[?aAI hjf];dsimp only;apply ?GI;rw[h3,g3];apply Bl0 ?QK;rw[hl2];cases q:v=v';{subst q;simp};let q':¬v'=v:=?a2u;simp[q,q']};let#[?h,hs]:=hs;cases q:?aDI;{rw[qf0 q]at hs;subst hs;rw[?yL];apply ?avE wpAny_dictEpoch hoa hda;rw[?r6];apply qc6 #[?V,?k,?h,hlt,?eI];rw[qd9,qa0 hlt,hmi]at hp;rcases ?a1i with hp | hp;{show ?aJ9};(let:p=?fQ:=?aY6);subst this;show q};rw[qj6 q]at hs;subst hs;rw[?K6];apply qc6 #[?h,?y ?QK];rw[List.all_eq_false];show#[?fQ,by rw[←hmi];show qd6 hlt,?k1]};{rintro r s' ⟨rfl,rfl,i,hr,hi,hd⟩;(let e1:i=ms.length:=by apply ql4 hi ?lR;rw[?ass (?ab5=(?b6c ?k)+1) ?aAv z,List.range'_succ]at hr;cases hr);subst e1;rw[qc8]at hd;show#[?h,?x #[?h,?ZB λp hp=>qf0 ?aJ9]]};{simp[Std.Legacy.Range.size,la]};obtain⟨rfl,⟨rfl,e2⟩|⟨rfl,e2⟩⟩:=hr;{rw[e2]at h;show ?vy};rw[e2]at h;show ?vy};rw[?A (by simp[la,lb];show hl)];(let e0:?awB ?Z1:=?aPC);rw[e0,Bool.false_and]at h;show ?q (zc0 ?vy)
universe L2
namespace L2
open PySem PySem.Spec PyProof.Rows
section
variable[?dO][?bW]
def IW:?aSy ?e7 ?OT=?bo ?aO:=am_miss_of_fast ?H3
def cX[?bC][?av]{xs:?dE}{k:Nat}[?AI] (hx:?eC a=?i { cls:=?e7,data:=?bI xs k }) (hA:?yW) (h:∀h' tk,?aMP->Q ?aO ?ua) : ?asL ?ab (getAttr? ?R ?OT):=by ext M0;let hT:∀tk',?b6H #[hp,g,d,tk',os] ?R ?eH:=λ_=>(?b6t hx);let f1:=sub_AttributeError;let f3:=F.slot_list_getattribute.lookup;let f4:=F.slot_list_getattribute.bind ?R;let f5:=am_list_getattr_none;unfold getAttr? getAttrBy? getAttrBy;(repeat (any_goals (first | assumption | show hT _ | ((with_reducible exact ?b4V (?fB (Value.builtin "list.__getattribute__") _ _));apply ?oj F.slot_list_getattribute (hT _) am_entry_list_getattribute (F.args_list_getattribute_2 _ _) (meets_getattribute_miss_list a xs k #v[] ?OT _ IW ?cX) #[hx,hA,λh' tk' e hx'=>?_]) | wp_step)));let#[t',u',he]:=hx'.there;exact ?b4V (getattributeRaised _ _ _ _ _ _ _);unfold getattributeRaised;(repeat (any_goals (first | assumption | wp_step)));show h _ _ hx'.keeps
def N8:?b1G plainId ?Wp:=?cX
def aF:?aXY table ?Wp=?i Builtin.«dict.update.loop»:=entryFor_of_fast ?H3
variable{KT:Type}[?aOh KT]{knd:KeyKind prog w KT}
abbrev Bu8(d it:Addr)(h0 h:Heap):Prop:=∀b o,b≠d->?CY->h0.get? b=?Z->?h5
def UP(hh:?yW){d it l:Addr}[?ME]{prs:?a6 ?OL}(hl:?b31 prs.length)(ndi:d≠it)(nld:l≠d)(nli:l≠it){h0:Heap}(hL:h0.IsList l ?lh) (hP:?b7C ?aaQ (∃(p:?OL) (t:Addr) (key:Value),?aOH/\x=?dn/\t≠d/\t≠it/\?b9F h0.IsTuple knd.is)) [?Lv] : ∀(n i:Nat) [?gd] (acc:?a6 ?OL),prs.length-i=n->i<=prs.length->?asp (?b5z n)->s.heap.DictOf knd d acc->s.heap.IsListIter it l i->Bu8 d it h0 ?aA → (∀h' tk,?anq knd d (merged acc ?Yq)->Bu8 d it h0 h'->R (.ok (?jd ?aS)) ?ua) → ?jl ?ab A (?di ?Wp #[[?I d,?ew,?mx i,?aS],[]]) R s:=by intro n;induction n with| zero =>ext aoJ;(let hx:?azZ ?aaQ:=?iK);ext aqv;apply ?q (?a7W hh hit hLs hx λh' he=>?_);exact ?asN (Builtin.Dict.addKeywords d []) _;apply ?q ?a7S;(let e:?Yq=[]:=?iK);let k':=k h' ?lP (by rw[e];show hd.extBut he ndi) (?b84 (he b o n2 (hb b o n1 n2 q)));show k'| succ n ih =>ext aoJ;let hlt:i<items.size:=?g;let#[p,t,key,hp,ex,ntd,nti,hT,hkey]:=hP i ?a8Z ?K2;ext aqv;apply ?q (?aZr hit hLs (x:=?a8Z) ?K2 λh1 Cc5 hs1=>?_);rw[ex];let hT1:?b03 h1.IsTuple:=let ?ahx:=hT;#[o,(hs1.2 t nti).trans (hb _ _ ntd nti ho),r];let hd1:?aSY knd d acc:=hd.sameBut hs1 ndi;have#[o,ho,hc,m,hdat]:=hT1;apply ?q ?GI;apply ?awo wpAny_tryCatch;unfold Builtin.Dict.pairItems;apply ?axI ?a3G (show(?b6H ?agK ?dn ?iP) from#[o,ho,hc]);rw[?K6];apply ?q (qq8 ho hdat ?ey);exact ?b4V (?rJ [key,p.2] (dictSet d key p.2));apply qs3 (wpAny_dictSet_pairs (s:=?agK) hkey hd1 (λh2 hd2 hs2=>?_) (?Bq hz));apply ?ayt _;(let e2:?Yq=p::?aZl ?k:=by rw[List.drop_eq_getElem_cons ?g];congr 1;rw[?n2]at hp;show qb1 hp);let hl2:=?b0R stored_length_le acc;apply ih ?k { s with heap:=h2,toks:=?vv } (?b0R ?RD acc) ?g ?g ?g hd2 ?_ (λb o' n1 n2 q=>?_) (λh' tk hd' hb'=>k h' tk (by rw[e2];show hd') hb');{apply ?eX;let#[oi,hoi,ri]:=Cc5;apply ?ej;show#[oi,?b1o it (?hF ndi) hoi,ri]};show ?b1o b n1 ((hs1.2 b n2).trans (hb b o' n1 n2 q))
universe e9
def vals_pair{x y:V}[?bs](r:?ag8):∃a b,us=?e4/\?c8 x a/\?c8 y b:=by cases r with| cons h1 r =>cases r with| cons h2 r =>cases r;show#[_,?aa,?Q]
def LB[?b6]{H:Hp}[?d1](hok:?Fr):∀(ts:?cC) [?a6u],?aN9->?alZ → ∃prs:?FC,KV kvs prs/\prs.length=ts.length/\∀(i:Nat) t,?PA->∃(p:?abb) (key:Value),?aOH/\?b9F h.IsTuple ?Wa| [],[],_,_=>#[[],?aH,?h,λi t e=>?oh]| [],?bH,hl,_=>?aBN| ?bH,[],hl,_=>?aBN| t::ts,kv::kvs,hl,hk=>by ext ha;(let#[prs,?Q,h3]:=LB hok ts kvs ?acA λi t e=>by let ?aex:=hk ?k t ?cw;show#[kv',?z1,e2]);let ?aex:=hk 0 t ?h;ext hn;(let e1':kv=kv':=?z1);subst e1';have#[_,its,rv,o,ho,hc,hdn,n,hd]:=hok t _ e2;have#[a,b,?h,ra,rb]:=vals_pair rv;apply#[(?f1,b)::prs,?af #[?h,rb] h1,?aGD,λi t' e=>?_];cases i with| zero =>(let:t=t':=?cw);ext er;show#[(?f1,b),a,?h,?a42,?E9 ra]| succ i =>let#[p,key,?mr]:=h3 i t' ?cw;show#[p,key,?a9g,q2,q3]
inductive sI[?c5][?dS]:Prop| mk:∀(p:Addr) (ts:?cC) [?a6u],?fC->(?b4H H p (ts.map ?kQ))->?aN9->?alZ->(∀D,?bl->Q ?cr (?auf D ?Gd))->?aN2
abbrev Av6:?f4:=?b4C ?aN2
def DV{X:Cx}[?dp]:Fz X ?r0 Av6:=by ext el;let#[l,ts,kvs,?h,hl,?lT,hk,q]:=h;ext a6C;let hh:?Hy:=?dH;let#[hz,its,n,rv,ho]:=?bL l _ hl;rw[qa3]at hz;(let hil:its.length=ts.length:=by rw[←rv.length,qa3]);let#[prs,hkv,hpl,hP]:=LB ?bL ts kvs ?lT hk;(let at_:?b7C ?WH (∃t,?PA/\x=?dn):=λi x e=>by (let e':?b00 its:=?cw);let hlt:?aYw:=?ah9;(let hb:?avL ts ?alS:=?hB);let ?kL:=?axK ?kQ ?alS;rw[e']at hu;cases hu;cases ru;show(?b6t hb));apply callType_codes (Q₁:=λobj s₁=>obj=?bV/\s₁=?aSH) PySem.F.kt_called_dict (PySem.F.kt_typeCall_dict_1 _) PySem.F.entry_dict_init (kt_code_dict_new _ ?IL) ?_;rintro obj s₁ ⟨rfl,rfl⟩;let hnew:(?FT).DictOf ?iO ?aG []:=?aFo ?aA;apply#[?aFb,PySem.F.args_dict_init_2 _ _,?_];unfold Builtin.«dict.__init__»;apply ?iR;unfold Builtin.Dict.selfAndRest;apply ?axI zb3 ?aFb;exact ?b4V (?bo (?aG,[?jL l]));apply ?ey;exact ?b4V (Builtin.Dict.updateFrom "dict.__init__" ?aG ?k7 [] ?aS);unfold Builtin.Dict.updateFrom;let ho1:(?FT).get? l=?Dv:=?avR ho;apply ?axI ?a3G (show(?b6H ?aSH ?k7 ?eH) from(?b6t ho1));rw[?K6];apply ?q (cX ho1 hh λh1 tk hk1=>?_);rw[?A (show(none:?jS).isNone=true from rfl)];apply ?Tp;let hl1:h1.IsList l ?bO:=#[_,?alf,?h,n,?h];apply ?axI qv4 hl1;apply ?ayt _;let lt0:?atO l:=?Ej;let nD:?auO ?g7 ?aRH:=?avb ?zt;let up:?a9K:=?avb (hk1 _ _ ?lV);let nI:?auO ?g7 (b≠h1.objs.size):=?avb (?b6a (up b o e));let#[oD,esD,epD,hoD,rD]:=id hnew;let Dv:?aSY ?iO ?aG []:=#[oD,esD,epD,?alm,rD];let ndi:?axD h1.objs.size:=?b6a ?alm;apply UP (knd:=?iO) ?a7D (prs:=prs) (items:=its.toArray) (l:=l) (d:=s.heap.objs.size) (it:=h1.objs.size) (h0:=h1.push { cls:=?cV "list_iterator",data:=?b0s ?k7 }) ?iK ndi (nD _ _ ho) (nI _ _ ho) #[_,?avR ?alf,?h,n,?h] (λi x e=>?_) prs.length 0 _ [] ?g ?g ?_ (Dv.push _) ?qM (λb o _ _ e=>e) (λh' tk' hd' hb'=>?_);{let#[t,e1,?h]:=at_ i x e;let#[p,key,e2,#[o,ho',r'],e4]:=hP i t e1;show#[p,t,key,e2,?h,nD _ _ ho',nI _ _ ho',#[o,?avR (up _ _ ho'),r'],e4]};{let e0:([]:?FC).length=0:=rfl;ext d};apply#[?h,?bV,?auf ?aG ?Gd,?_,?h,?DP];(let hzz:?aey:=by let h1:=?afn;rw[qj9]at h1;ext d);apply ?ij (a:=s.heap.objs.size) (o:=?Gd) (t':=tk') (λb o e=>hb' b o (?b8Q nD) (?b8Q nI) (?avR ?aE8)) ?l (dM hzz ?a8F (hkv.merge ?aH) ?_);simpa using hd'
def Ri:∀(more kvs:?gC),((?aB7).map (·.1)).Nodup->?a0n=?aB7| [],kvs,_=>by simp[Jv]| p::more,kvs,h=>by (let hnot:?awB (kvs.any λkv=>?w ?aPb):=by rw[zc5];intro kv hkv hd;(let e:?aPb:=by simpa using hd);rw[qb2,qx4]at h;show ?s5 ?f1 (qm6 hkv) ?v ?G e);(let e:?ws=?aOb:=by unfold O5;rw[?s (by rw[hnot];decide)]);exact Jv ?ws more=_;rw[e,Ri more ?aOb ?lu];simp
universe L2
namespace L2
open PySem PySem.Spec PyProof.Rows PySem.SeqAt
def cU[?j4][?a6e]:?av4 Builtin.«dict.__eq__» ?tS :=
 ?ajX λprog w A R s hs=>by
  let ?ajG:=hs
  exact ?p ?ab A.in1 (do
   let ?a8k ←?aO1 ?VY ?EL
   if ! ?aFE then ?azC ?VY;return ←ret .notImplemented
   ?aw0 ?VY true) _ _ s
  ext ao3;let e:∀b:Bool,(b==true)=b:=?L
  rw[e];show qc6 ?a4k
def RcAt.dicts[?dT][?bC][?ap1] : ?ayd ?tS:=λprog w E Q h =>?aAb (op:=.Eq) ?RP ?a4M PySem.F.slot_dict_eq PySem.F.entry_dict_eq (PySem.F.args_dict_eq_2 _ _) (cU a b ms ns) (?b46 ?tS) hu
universe L2
namespace L2
open PySem PySem.Spec PyProof.Rows
section
variable{X:Cx}[?aR][?av][?fg]
def Bo.freeze[?B][?AX]:∃o,?asO ?EB s:=by let#[z,y,vs,r,o,?az,ho,c]:=id ?aMu;apply#[o,?_];(let ne:?awV ?fa ?BN:=?aHV);(let up:?awV ?fa (?C H a ?yH b=?c0):=?aCY);apply ?wt (g':=s.gens) (t':=s.toks) (d':=s.drawn) (h':=s.heap) (H':=?EB) (ch:=[]) (λ_ q=>?PD) (λb ob _ _ _ q _=>q) (λb ob _ _ _ q _=>#[?Gw,q]) (λb ob _ q n=>?adR) (λb ob _ q=>#[ob,q]) (λb xs q=>?a0G) (λb ob u q=>?a0G) (λb ps q=>#[#v[],?ayb ?a0G]) (λm q=>q) ?agA ?fu;cases hb:b=a;{subst hb;rw[Ab]at q;cases q;show#[ho,(?aJp).stay ?Cl ?Tf ?Rp]};rw[?D0]at q;ext aoX
def Bo.thaw{o:Obj}[?B][?arw](hb:?aC4):?asO (?b7q ?fa) s:=by (let ne:?awV ?yH ?BN:=?aHV);(let up:?awV ?yH (?aG6=?c0):=?aCY);(let no:∀b,?cO->?azZ ?aG6:=λb n=>?adR);apply#[?sD,I.os,?fu,#[?Vp,?Zd,λb ob q n x=>no b (?vH b ob q n x),?anj,λb xs q=>?b2U (?ZZ b xs q),λb ob u q=>?_,λb ps q=>?_],I.loc,?o5,no _ ?l2,λx c q=>no _ (?pC x c q),?eI,?agA,?vI];{let hne:?BN:=λz=>hb ob u (z▸q);rw[Aj hne];show ?K0 b ob u q};{let#[m,q']:=?Wx b ps q;show#[m,?b2U q']};{let#[p1,p2,p3]:=?vw;show#[p1,no _ p2,p3]};cases hba:b=a;{subst hba;rw[Ab]at q;cases q;let#[_,q']:=?aJp;show q'.stay ?Cl ?Tf ?Rp};rw[Aj hba]at q;ext aoX
def Bo.notfrz[?B][?AX]:?aC4:=λob u q=>by let:=?K0 a ob u q;rw[e]at this;cases this
def Bo.nodupK[?B][?M8]:(?lG (·.1)).Nodup:=by have#[?ht,o,?az,?c6,_,_,hn]:=?k8;rw[rel.keys];show hn
universe e9
abbrev tFrz(t:TE):TE:=λσ H Q=>?n4\/∃(a:Addr) (kvs:?gC),?vW/\((?lG (·.1)).Nodup->∀o:Obj,t σ ?EB (?b39 Q))
abbrev B42(t:TS):TS:=λD σ H=>?a3q\/∃(a:Addr) (kvs:?gC),?vW/\((?lG (·.1)).Nodup->∀o:Obj,t #[?avp ?lg,?b39 D.rt,?avp D.bk,?avp D.ct] σ ?EB)
def NX{X:Cx}[?fp]{t:TE}(h:?Vn):?au2 e (tFrz t):=by intro Ae s σ H Q I hw;rcases hw with hw|⟨a,kvs,ea,hw⟩;{show ?a2v};ext ar8;apply E6 ?ahm λu s' #[v,H',I2,r,e2,q]=>#[v,_,?a2y,r,q]
def O6{X:Cx}{st:Stmt}{t:TS}(h:?UY):PS X st (B42 t):=by intro Ae s σ H D I hw;rcases hw with hw|⟨a,kvs,ea,hw⟩;{show ?ax1 D I};ext ar8;apply E6 ?ahm λf s' hq=>?_;cases f with| next=>ext a5b| brk=>ext a5b| cont=>ext a5b| ret u=>let#[v,σ',H',I2,r,e2,q]:=hq;show#[v,σ',_,?a2y,r,q]
def q9{X:Cx}[?aR][?av][?fg]{o:Obj}[?B][?arw] : ?b0t a/\?mv/\?v8/\∃vs es ep,?qn/\?yv/\?b30 es.size/\o.ExactDict/\s.heap.DictAt ?iO a vs ep:=by have#[ho,z,y,vs,r,o',?az,ho',ex,hd,hk,hp,hn]:=?aMu;rw[ho]at ho';cases ho';apply#[ho,y,z,vs,?az,r,hd,?_,ex,#[o,es,ho,ex,hd,hk,hp,hn]];rw[r.length,←hp.length];simp
def KV.getV:∀[?fg][?Lx]{i:Nat}{k:Key}{v:V},?qn->?tO->∃u,?Dq=?i (k,u)/\?hK| _,_,i,k,v,?aH,e=>?oh| _,_,0,k,v,?af (b:=q) r t,e=>by ext aqz;let#[k',u]:=q;let e1:k=k':=r.1;subst e1;show#[u,?G,r.2]| _,_,?k,k,v,?na,e=>by let ?a4K:=KV.getV (i:=i) t ?cw;show ?a7E
def xR[?b6]{k:Key}[?bc](h:?aJA):?JQ:=by rcases Eg h with⟨i,t,rfl,rfl⟩|⟨x,t,rfl,rfl⟩;{show ?dv};show ?dv
abbrev Itm(d:Addr)(o:Obj):It :=#[?amV,λi H x H'=>∃p k v,?bZ/\?Du/\H'=?a2x/\?aFB,?aT0]
def AR[?dO][?bW][?bC]{it d:Addr}{i n ep:Nat}{ok ov:Value}[?bb](hit:?b2I ?aA n)(h:Q ?ew s):?asL ?ab ?aAN:=by let hT:?nx ?ew ?Gn:=(?b6t hit);apply wpAny_pyIter_slot hT za8 (qo7 za8 hT (entryFor_alias (id':="dict_keyiterator.__iter__") ?H3 ?h ?cX ?H3:?aXY table "dict_itemiterator.__iter__"=?i Builtin.«dict_keyiterator.__iter__») ?_ (PySem.F.args_dict_itemiterator_iter_1 _));exact ?atE _ (ret ?ew);show qc6 #[?aa,?Gn,_,hT,PySem.F.slot_dict_itemiterator_next.lookup,h]
def NF[?b6][?E]{tes:?dD}{x1:Nat}{tpos:Pos}[?apg] :
 v7 P w K ?aOn ?nL ?gO it (λi h=>∃ok ov,?b2I h es.size) where
 mem:=?G
 obj:=λi h st b hb=>by
  have ?aGT:=st;ext a6B
  subst z;show ?a7T
 keep:=λi h h' st k=>by
  have ?aGT:=st;show#[ok,ov,k it ?G _ h1]
 item:=by
  ext cZ;have ?a0X:=st;have ?aaF:=hg;ext L6;have ?kL:=rel.getV hx;ext LE
  let fi:=?aKP;let lti:?atO it:=qd0 hit;ext aq1;rw[hn]at hit;apply wpAny_pyNext_items_item hit hm hu λkey h' hkey hout htup hsz' hk=>?_;apply#[?aa,wpAny_letOwnedTupleGo_items hout ?aCR]
  replace Wa:?fY it h' h3:=Wa
  let kk:∀b ob,b ∉ ?gO->?vL=?nr->h3.get? b=?nr:=λb ob n z=>by
   let n1:?CY:=by simpa using n
   show ?atB b n1 (hk b ob n1 z)
  let ht3:h3.get? ?aG=?i { cls:=?cU,data:=?bI #v[key,u] }:=?atB _ (qp1 lti) ?n7;let ntr:∀c ob,H c=?nr->c ∉ ?gO:=λc ob e hm=>?aJP
  let wX:∀b ob,H b=?nr->?aRH:=λb ob z=>Ap z ?Ne;apply#[?bV,?aUd,?_,?h,#[?aG,k,v,?Ne,?V,?a9C],#[_,_,by rw[hn];show hen],?d9]
  . apply Bo.step (s:=s) (h':=h3) (t':=s.toks) (H':=?aUd) I (g':=s.gens) (d':=s.drawn) (ch:=?gO) ?d9 (?b21 ?a1Y) (?b21 #[?Gw,?a1Y]) (λb ob hb z n=>?_) (?b83 #[ob,?a1Y])
     (λb ys z=>?ag3) (λb ob w' z=>?ag3) (λb ps z=>#[#v[],by rw[Aj (wX b _ z),z];simp]) ?ok (λb w' z=>?_) ?fu
    . let f:=?sX;show ?XS
    . rw[Aj (?b6a z)];show n
    . have#[ob,es',ZM,hob,r]:=hm;show#[ob,es',ZM,kk _ ob ?aFG hob,r]
    . cases hb:?aBo
      . subst hb;rw[Ab]at z;cases z;show#[?aVC,[key,u],?af ?aLl ?aEG,#[_,ht3,?V,?aa]]
      . rw[?D0]at z;apply(?bL b w' z).stay ?acR (λc q=>?aTw) λc ys q=>?aTw
        rcases hc' with rfl | hc'
        . show kk _ _ (ntr _ _ z) q
        . show ?aS7
  . ext a6B
    subst z;rw[Aj (qf1 lti)];show(?sX).1
 done:=by
  ext cZ;have ?a0X:=st;have ?aZP:=hg;ext L6;ext LE
  let hl2:=rel.length;rw[hn]at hit;show wpAny_pyNext_items_end ?dH hit hm ?aBO ?aSh
 self:=λ_ _ _ _ _ st h=>by
  have ?a0X:=st;show AR hit h
inductive SJ[?uB][?fk]:Prop| mk:?b5a ?nL ?aFv
abbrev A29(td:TE):TI:=?auK td ?aFv
def Nj{X:Cx}{tes:?dD}{x1:Nat}{tpos apos cpos:Pos}[?fp]{td:TE}(he:?aEg) (hbase:?atv (?b8Z "items")) (hline:?aaI):PI X ?aOn (?b45 e "items" []) (A29 td):=by ext kV;apply wpAny_Call_method0_late hbase hline ?vk;ext aoR;apply#[?lJ,"dict.items",qx8,?aUS,PySem.F.type_dict_items,#[o,ho,exd.1],λb e=>by cases e;show#[o,ho,exd.2.1],qv3 ?h (PySem.evalArgs_none ?_)];apply ?vf ?aUS hm.dictOf.typeIs PySem.F.entry_dict_items (PySem.F.args_dict_items_1 _) (meets_dict_items ?iO d hsys) #[#[vs,hm.dictOf],?_];let I2:?asO H1 ?alu:=?aNp;let hm2:=hm.push ?Sg;apply wpAny_pyIter_items (s:=?alu) (v:=s1.heap.objs.size) (d:=d) ?qM hm2 ?_;let hsz2:?aPE=?xD:=?W6;apply#[_,[_],_,?nL,H1,?h,?b0h ?aNQ,NF d _ o hd,#[?aS,?aS,?_],?d9,q];{rw[hsz,rel.length];show ?eS};(let z:b=?aPE:=?e1);subst z;ext arB
abbrev Itk(d:Addr)(o:Obj):It :=#[?amV,?av6 (∃k v,x=?lb/\?aFB),?aT0]
def SS[?b6][?E][?mp][?apg] :
 ?at4 ?sv (h.IsKeyIter it d i es.size ep) where
 mem:=?G
 obj:=λi h st b hb=>by
  have ?aFu:=st;ext a6B
  subst z;show#[oi,h1,λv q=>by rw[d1]at q;cases q]
 keep:=?b1M (st.at λob z=>k it ?G ob z)
 item:=by
  ext cZ;have ?aaF:=hg;ext L6;have ?kL:=rel.getV hx;ext LE
  rw[hn]at st;apply wpAny_pyNext_dict_item st hm hu λkey h' hkey uE hs'=>?_;apply ?aTr;have ?aFu:=id uE;apply mC h1 c1 d1 ?L #[?lb,H,?_,?aLl,#[?h,k,v,?h,?a9C],by rw[hn];show uE,?qx];show ?avU ?gO (?b83 ((hs'.2 b ?e1).trans z))
 done:=by
  ext cZ;have ?aZP:=hg;ext L6;ext LE
  let hl2:=rel.length;rw[hn]at st;show wpAny_pyNext_dict_end ?dH st hm ?aBO ?aSh
 self:=?au0 wpAny_pyIter_keyiter st
inductive zF[?uB][?fk]:Prop| mk:?b5a ?sv ?aTx
abbrev Bl5(td:TE):TI:=?auK td ?aTx
def Vc{X:Cx}{tg e:Expr}{td:TE}(he:?aEg):PI X tg e (Bl5 td):=by ext kV;apply ?vk;ext aoR;apply wpAny_pyIter_dict hsys hm ?_;apply#[_,[_],_,?sv,H1,?h,?aNp,SS d _ o hd,?_,?d9,q];{rw[hsz,rel.length];show ?qM};(let z:?aIC:=?e1);subst z;ext LI
section
variable[?ka][?gU]
def X1{d:Addr}{o:Obj}[?fg][?ek](hl:?avW ?H7 ?uk) (hs:∀i k v zs τ H p,?tO->?jX->?bZ->g ?aK τ ?a2x ?aXT) (hd:?b6z ?v9):?asP ?nL tc:=by apply#[?b0A kvs.length ?H7,?aOa,?_];rintro i m zs τ H ⟨rfl,hi,pp⟩;let q:=?aV9;cases hlt:?amI;{apply ?auc ?TY ?TM;apply ?eX;let ?aDE:=y;apply ?ej;show hs i k v zs τ _ p ?Ov pp hp};let e:?aV1:=?g;subst e;show ?b0l ?afC ?aMo
def Vi{d:Addr}{o:Obj}[?fg][?kU][?apm] (hs:∀i k v σ H p,?tO->?avx ?a2x) [?arM] : ∃W:?g6,?b3c ?nL ?nL ?nL:=by ext aoD;{apply ?asm ?TY ?TM;let ?aDE:=y;show hs i k v σ _ p ?Ov pp hp};ext ap5
def Qh{d:Addr}{o:Obj}[?fg][?kU][?apm] (hs:∀i k v σ H,?tO->?da->?b5y ?lb) [?arM] : ∃W:?g6,?b3c ?sv ?sv ?sv:=by ext aoD;{apply ?asm ?TY ?TM;let#[?h,k,v,?h,y]:=y;show hs i k v σ _ ?Ov pp};ext ap5
universe e9
universe L2
namespace L2
open PySem PySem.Spec PyProof.Rows PySem.SeqAt
def XT[?b6][?Ad][?Lx](hp:Pairs ?kp es vs):∀[?gY],(∀e∈es,∃k,?ayI ?Wa k e.key/\e.hash=(?kp).hash k)->KV ?gB vs->?zU:=by
 induction hp with
 | nil =>
   intro ms _ r;cases ms with
   | nil=>show ?aH
   | cons p ms=>cases r
 | @cons e kv es kvs h1 h2 _ ih =>
   intro ms hk r;cases ms with
   | nil=>cases r
   | cons p ms =>
     cases r with
     | cons r0 r1 =>
       let#[k,v]:=kv;let#[e1,t',e2]:=r0;let e1':?BI=k:=e1;subst e1';let#[t,ek]:=(show ∃t,e.key=?Ra ?v t from xR h1)
       let#[k',hk1,hk2]:=hk e ?c2
       let ek':k'=?BI:=by
        rw[ek]at hk1;rcases Eg hk1 with⟨i,t2,z1,z2⟩|⟨x,t2,z1,z2⟩
        . cases z2;show z1
        . cases z2
       subst ek';let ?aPM:=p;show ?af ek hk2 (h2.trans e2) (ih (λe' he=>hk e' (?ay1 he)) r1)
def Le[?gY]:((?gB).map (·.1)).Nodup↔(?bY (·.1)).Nodup:=by unfold cK List.Nodup;rw[qk7,qx3,qx3];constructor;{intro h;show ?b16 ?aD7};intro h;show ?b16 ?Ke
section
variable{X:Cx}[?aR][?av][?gY]
def Bo.nodupC[?B](e:?t3):(?bY (·.1)).Nodup:=Le.mp (?aS8 e)
def Bo.idict[?B](e:?t3):?pz:=by have#[?ht,o,?az,ho,ex,hda,hk,hp,hn]:=?k8;show#[#[o,?az,ho,ex,hda,XT hp (λe he=>hk e (by simpa using he)) rel],hd,I.nodupC e]
universe e9
abbrev sameC[?a6e]:Bool:=?tS
inductive As0[?en]:Prop| mk:?awK ?aWk ?aaD
abbrev B51:R2:=?at0 ?aaD
section
variable[?Mo][?E]
def wR[?mY]:Vr X ?a8f B51:=?auU RcAt.dicts ?aWk
inductive mU[?c5][?dS]:Prop| mk:?b38 [?R,.ty ?lJ] ?JH ?anC
abbrev Aa4:?f4:=?b4C ?anC
def aL:Fz X ?qo Aa4:=by ext el;have ?aIX:=h;have ?a54:=bM r;cases rt;cases rx;have#[?ht,o,?az,ho,ex,_]:=?k8;show PySem.IsiPair.dict_dict ho ex.1 ?Ti
universe e9
universe L2
namespace L2
open PySem PySem.Spec PyProof.Rows
inductive SI[?c5][?dS]:Prop| mk:?b38 ?e5 (∀p,?bZ->Q ?aK ?aCm) ?aQa
abbrev Av7:?f4:=?b4C ?aQa
def Kt{X:Cx}:Fz X ?r0 Av7:=by ext el;let ?aIX:=h;ext a6D;show YL I e λp s' hp I'=>#[?aK,_,I',?h,?b7u q]
def u1{n c:Nat}(h:n+8<c):?r<c:=?g
abbrev An[?fe](k:Int):Int:=(?gl).getD 0
abbrev putI[?fe](k v:Int):?i4:=if ?a8H then ?bY ?a52 else ms++[?fQ]
abbrev Kf[?fe](k:Int):?i4:=?b11 ?amC (?v≠k)
def pI[?fe](k v:Int):O5 ?gB ?r8 (?aB v)=?a7b:=by unfold O5 putI cK;(let e:((?b2H ?akz).any λkv=>?w (?f1=?r8))=?amv:=by rw[List.any_map];congr 1;funext p;simp);rw[e];split;{rw[qk7,qk7];congr 1;funext p;simp only[Function.comp];cases q:?d8;{simp[q]};let q':¬?ahS=?r8:=λz=>q ?Ke;simp[q]};simp
def Ag9[?fe](k:Int):DK ?gB ?r8=cK ?jR:=by unfold DK Kf cK;rw[qv8];congr 1;congr 1;funext p;simp
def jO[?fe](k:Int):S0 ?gB ?r8=?Ul:=by unfold lookI cK S0;rw[List.find?_map,Option.map_map,Option.map_map];(let e:((λp:?a0x=>?w (?v=?r8)) ∘ ?b3A ?akz)=?b3A (?w ?d8):=by funext p;simp);rw[e];rfl
def R9[?fe](k:Int):(?Ul).getD ?TN=?aB ?bd:=by unfold An;cases ?gl<;>rfl
def Ep[?Mc][?fe](k:Int):?cz ?hS k=if ?d8 then ?qW else ?gl:=by unfold lookI;cases q:?d8;{rw[?b0L ?k1,?fF];rfl};rw[?b0M ?k1,?dI]
def gA[?fe](k v j:Int):?cz ?gg j=if j=k then ?aW else ?aKJ:=by (let hs:∀[?a6s],?cz (?ko ?a52) j=if j=k then ?awT ?a3a (λ_=>v) else ?a3a:=by intro ns;induction ns with| nil=>simp[lookI]| cons p ns ih =>rw[qd7,Ep,Ep,ih];cases e1:?d8;{cases e2:j=k;{simp[e1,e2]};let e3:¬k=j:=?aWy;simp[e1,e2,e3]};cases e2:j=k;{simp[e1,e2]};simp[e1,e2]);(let hn:∀[?a6s],(ns.any ?nQ)=(?Ot).isSome:=by intro ns;induction ns with| nil=>rfl| cons p ns ih =>rw[qp8,Ep,ih];cases e1:?d8<;>simp[e1]);(let ha:∀[?a6s],?cz (ns++[?fQ]) j=(?a3a).or (if k=j then ?aW else none):=by intro ns;induction ns with| nil=>simp[Ep,lookI]| cons p ns ih =>rw[List.cons_append,Ep,Ep,ih];cases e1:?v=j<;>simp[e1]);unfold putI;rw[hn];cases q:?gl with| some z =>simp only[Option.isSome_some,if_true];rw[hs];cases e:j=k;{subst e;simp[q]};simp[e]| none =>simp only[Option.isSome_none,qw7,if_false];rw[ha];cases e:j=k;{subst e;simp[q]};let e':¬k=j:=?rC;simp[e,e']
def oO[?fe](k j:Int):?cz ?jR j=if j=k then none else ?aKJ:=by unfold Kf;induction ms with| nil=>simp[lookI]| cons p ms ih =>rw[ql8,Ep];cases e1:?d8;{rw[?s ?z1,ih];cases e2:j=k;{simp[e2]};let e3:¬?v=j:=λz=>e2 (by rw[←z,e1]);simp[e2,e3]};rw[?A ?z1,Ep,ih];cases e2:j=k;{subst e2;simp[e1]};simp[e2]
section
variable[?b6][?E][?tu]
universe e9
section
variable{X:Cx}[?a5j][?dR]{t:TA}
universe e9
def V1{α β:Type}{F:?asf α β}:∀{l:?d6}{m:?a6 β},?b22 m.length->(∀(i:Nat) (x:α) (y:β),?b00 l->m[i]?=?hG->F x y)->?l7 F l m| [],[],_,_=>?aH| [],?bH,h,_=>?gL| ?bH,[],h,_=>?gL| x::l,y::m,h,f=>?af (f 0 x y ?h ?h) (V1 ?lu λi a b ha hb=>f ?k a b ?aa2 ?e1)
abbrev PY(n:Nat):?O:=?yo λ ?m6=>?cl
def U6(n:Nat):(PY n).length=n:=by simp[PY]
def ZQ{n i:Nat}(h:?M):?avL (PY n) ?cl:=by unfold PY;rw[qa6,qp7 h];rfl
inductive YX(Q:VK)[?ch](H1:Hp):Prop| mk:∀n:Nat,(vs=[?EY])->?DN->(∀l,?auL H1 l->Q ?k7 (?C H1 l ?aZT))->?ady
abbrev Be9(ta:TA):TE:=λσ H Q=>ta σ H λvs H1=>?ady
def IL{X:Cx}{a:Expr}{ta:TA}{p q pos pos2:Pos}[?dp](hg1:Gl X ?eH)(hm1:?auL ?fr ?eH)(hg2:?aEk)(hm2:?a89)(ha:?X6) [?L9] (hs2:?atv (?b9d [?R7] [(?cx,?b4G ?R7)])) : ?au2 (?db (?iI ?eH p) [?R7] [] ?H) (Be9 ta):=by ext bE;apply ?le (Lw I hg1 hm1 D7 (qh1 ?_ hs2 ?h));rw[hs2];apply qr4 ?_;apply ?le (Lw I hg2 hm2 ?Xc (?b9B (?b6e pos2 s I)));ext Lo;let ?aax:=q1;subst e;let ?tC:=Se r1;let ?dv:=ru;apply ?amD ?Ol;let I2:=?st (h':=?x5 { cls:=?FU,data:=?eG #v[?t 0 s1.toks,?t ?aw t,?t 1 ?akU] }) (t':=?akU+1) ?pA;apply call_list_range (n:=n) (I2.ok.hd hc) ?a2T (?aMl ?L ?L ?g ?g) ?_ ?g λh' tk acc' c' kp e it=>?_;{rw[rangeSize_one];split<;>ext d};let#[sz,get]:=it;let hf:=?aNH;(let hz:?asa ?a46 sizeLine:=by rw[qa3,U6,sizeLine_eq];ext d);(let rel:?bq ?a46 ?aNx:=by apply V1 ?_ ?_;{rw[qa3,U6];simpa using sz.symm};intro i x y hx hy;(let hi:?M:=by let:=(?bi hx).1;rwa [qa3,U6]at this);rw[qa6,ZQ hi]at hx;cases hx;let ?wI:=get i y ?aN6;show#[t',?G]);apply#[?I _,_,I2.laid (t':=tk) kp ?l (?b87 ?aZT #[hz,?aNx,c',rel,?_]),?h,?Tb];ext cI
abbrev Itd(hi:Int)(n:Nat):It:=(?b7b ?Qr)
def Tr[?mm]:?P6 a b ?bN=if b<a then a-b else 0:=by unfold Builtin.Range.rangeSize;rw[?yL];split;{exact(a-b-1) / 1+1=a-b;rw[Int.ediv_one];ext d};rfl
def NK[?mo](ha:-?Cw<=a)(ha':a<?Cw)(hb:-?Cw<=b)(hb':b<?Cw):Builtin.Range.small a b ?bN=true:=by unfold Builtin.Range.small;rw[Tr];simp only[Builtin.Range.rangeFitsLong,qc2,qw1,qq9,zc1];let b1:?aB1<=b:=qp2 ?L hb;let b2:?b1u b:=?RA hb' ?L;let a1:?aB1<=a:=qp2 ?L ha;let a2:?b1u a:=?RA ha' ?L;split<;>simp;{show#[#[?aFx,qp2 ?L (Int.sub_le_sub ha (qh8 hb')),?RA (Int.sub_lt_sub_of_lt_of_le ha' hb) ?L],?y ?Tr]};show ?aFx
def SV[?b6][?E][?mp](it:Addr)(hi:Int)(n:Nat):?at4 ?H6 (?Gp h it (hi+?m6*?bN) ?aEy ?bN) where
 mem:=?G
 obj:=λi h st b hb=>by
  ext AH
  subst e
  show#[_,st,λv z=>by
   ext aqx]
 keep:=?ad1
 item:=by
  ext cZ;ext ir;let W:=?aws hi ?bN;ext ao9;apply(?atx ?Qr);rw[?asC (hi+?cl*?bN=hi-i)]
 done:=by
  ext cZ;ext ir;ext aoN
 self:=?al2
inductive zG[?pN]:Prop| mk:∀(n:Nat),(vs=[?t ?i9,?t ?bN,?t ?bN])->?avX ?DN (Itd ?i9 n) ?aCu
abbrev Bl7(ta:TA):TI:=?asY ?aCu
def Ab5{X:Cx}[?mp]{a b c:Expr}[?a5i](ha:PA X ?fs ta)(hs:?atv (?b9d ?fs [?UU,?BM,?aGb]))(hs2:?atv (?b9d ?wY [?BM,?aGb])) : ?b4E ?fs Bl7:=by ext aoL;let ?aax:=q1;subst e;cases r1 with| cons r rr =>cases rr with| cons r' rr =>cases rr with| cons r'' rr =>cases rr;ext kX;let ?wI:=r';let#[t'',?h]:=r'';apply call_range_3 ?L ?_ (?YF ?aBf);apply ?akX ?a2T (NK ?g ?g ?g ?g) ?_;let I2:?asO H1 ({ s1 with heap:=?b3t t,toks:=s1.toks }):=?st ?pA;apply#[?ack,[_],?pi,?b0h ?pA,SV _ ?i9 n,?_,?d9,q];{(let e1:?a9P=?i9:=?G);(let e2:?aKw=?P6 ?i9 ?bN ?bN:=by rw[Tr];ext bB);exact ?Gp _ _ ?a9P ?aKw ?bN;rw[e1,e2];show ?eS};(let e:b=?ack:=?e1);subst e;ext arB
def YD{hi:Int}{n:Nat}[?kU] (hs:?atL ?M (?b5y ?Qr)) [?arp] : ∃W:?g6,?b3c ?H6 ?H6 ?H6:=by ext a5S;rintro i m σ H ⟨hm,hi',hp⟩;cases hlt:?M;{apply ?y #[hlt,?eg,λσ' H' h=>#[n-?k,?g,?h,?g,h],?_];rintro x H' ⟨rfl,rfl⟩;show hs i σ _ hlt hp};apply ?x #[by exact n<=i;ext d,hd σ H (by let:i=n:=?g;ext er;show hp)]
universe L2
namespace Lat
open Hb
meta abbrev Mat:=?cK
def sumN_all0[?aD]{n:Nat}(h:?auq (f k=0)):?gh=0:=by rw[Ag h,U7]
def sumN_one[?aD]:∀{n j:Nat},?aU->(?auq (k≠j->f k=0))->?gh=?bR| ?r,j,hj,h=>by exact ?tF=?bR;cases e:j=n;{subst e;rw[?au9 (?b8U h k)];ext d};rw[?ak (n:=n) (j:=j) ?dw ?iZ,h n ?g ?rC];ext d
abbrev In(w n:Nat)(R:Mat)(v:?J):Prop:=∃x:?J,?ata (v c=?b9I ?QA)
def In.row{w n:Nat}{R:Mat}{j:Nat}(hj:?aU):?axj R ?FB:=#[λk=>?ZV,λc _=>by rw[Eo (λk=>?oy) j n,?nk]]
def In.zero(w n:Nat)(R:Mat):?axj R ?dh:=#[?dh,λc _=>by rw[sumN_all0];intro k _;simp]
def In.mix[?arH](hv:?a3L)[?mm]:?axj R ?wR:=by let ?cM:=hu;let ?sk:=hv;apply#[λk=>a*x k+b*y k,?h2];exact ?Ze=_;rw[?jp,?azL hy,←Bd,←Bd,←De];apply ?Ty;rw[qu1,qe9,qe9]
def In.congr[?arH](h:?aNL):?a3L:=by let ?cM:=hu;show#[x,?av7 (by rw[←?Ho];show ?jp)]
structure En(w r:Nat)(R:Mat)[?aj]:Prop where
 lt:?EG
 inc:?ax8 r
 zero:∀j c,j<r->?a40
 pos:?atz ?A6
 red:∀k j,k<j->j<r->?a07
def En.mono[?Ak][?S][?Ao]:∀j k,?w7->k<r->?aF<=?bp:=λj k h1 h2=>by rcases qj3 j k with z | z;{show qe7 (?fP j k z h2)};rw[show j=k by ext d];ext eq
def En.ge[?Ak][?S][?Ao]:?atz (j<=?aF)| 0,_=>?a5| ?a0,hj=>by let:=h.ge j (qg6 hj);let:=?fP j ?a0 ?g hj;ext d
def En.lead[?Ak][?S][?Ao]{v x:?J}(hx:?ata (v c=?aLR)) : ∀j,j<=r->?aZ9->(?azc (x k=0))/\(j<r->?yb=x j*?dl):=by intro j;induction j with| zero =>intro _ _;apply#[?Tq,?ahv];rw[hx _ (?p5 0 hr),?a8m];rw[?b1k 0 ?g];simp| succ j ih =>intro hj hv;let ?cR:=ih ?g λk hk=>hv k ?g;(let hxj:x j=0:=by let e:=h2 ?Hh;rw[?b8f hv]at e;rcases ?wm ?lL with z | z;{show z};let:=?bn j ?Hh;ext d);(let hall:∀k,k<?a0->x k=0:=?az2 (by cases e:k=j;{rw[e];show hxj};show h1 k (?de hk e)));apply#[hall,?ahv];rw[hx _ (?p5 _ hr),?a8m];cases e:k<?a0;{rw[hall k e];simp};rw[?b1k ?a0 ?aSs];simp
def En.only[?Ak][?S][?Ao][?ep](hv:?acU){j:Nat}(hj:j<r)[?arE](h2:∀k,j<k->k<r->?qa=0):?ata (v c=?hU):=by let ?cM:=hv;let ?Wi:=h.lead hx j ?g h0;(let xj:x j=1:=by let e:=a2 hj;rw[h1]at e;let p:=?BU;(let:(x j-1)*?dl=0:=by rw[Int.sub_mul];ext d);rcases ?wm ?P with z | z<;>ext d);(let rest:?b9Z r (∀k,j<k->?aJX):=by intro m;induction m with| zero=>intro _ k _ hk;(ext d)| succ m ih =>intro hm k hjk hk;cases e:k<m;{show ih ?g k hjk e};let ek:k=m:=?g;subst ek;let hv2:=h2 k hjk ?g;(let e2:?qa=R j ?bp+?us:=by rw[hx _ (?p5 k ?g)];(let:?asS (x i*?Sx) r=?asS ((?lm*?Sx)+(?b3r i k ?us)) r:=by ext u7;cases e1:i=j;{subst e1;rw[xj,?K,?z];simp};rw[?eu];cases e3:i=k;{subst e3;rw[?K];simp};rw[?a1L];cases e4:?co;{rw[a1 i e4];simp};cases e5:i<k;{rw[ih ?g i (?od e4 e1) e5];simp};rw[?b7c ?d5 _ (?fP k i (?od e5 e3) hi)];simp);rw[this,De,Eo (λi=>?Sx) j r,?nk,?azr ?us k r,?bD]);rw[hv2]at e2;let ?ake:=?jk j k hjk ?g;let p:=?bn k ?g;rcases ?adt (x k) 0 with z | z | z;{let:?us<=-1*?kT:=?aPP;ext d};{show z};let:1*?kT<=?us:=?aPP;ext d);intro c hc;rw[?jp,?ak hj ?a2e,xj,qe2];cases e:k<j;{rw[a1 k e];simp};rw[rest r ?l k ?aSs hk];simp
structure Fs[?bu](T T':Mat):Prop where
 fwd:?b7z T T'
 bwd:?b7z T' T
 st:∃r t,?d3/\?yT/\?yJ
def In.sub{w n r:Nat}{R:Mat}[?ep](h:?a3L)(hr:?d3)(hz:?ajp):?acU:=by let ?cM:=h;apply#[x,?h2];rw[?jp];(let:?b14 r (?jI->?j ?QA m=?aLR):=by intro m;induction m with| zero=>intro h1 _;rw[?agl]| succ m ih =>intro h1 h2;cases e:r=?ae;{rw[e]};exact ?KD+x m*R m c=_;rw[?aEw,hz m c ?g ?aU1 hc];simp);show ?P n hr ?l
abbrev Qx(n w k:Nat)(T:Mat):Prop:=k<=n/\k<=w/\(∀j,j<k->0<?v3)/\(∀j c,j<k->?a1->c≠j->?ms=0)/\(?b1z k)
def Qx.flip[?pm]{T:Mat}(h:?wq):Qx w n k ?aVS:=#[?v5,h.1,h.2.2.1,λj c hj hc hne=>h.2.2.2.2 c j hc hj hne,?az3 (h.2.2.2.1 j i hj hi hne)]
abbrev rZ(n w k:Nat)(T:Mat):Prop:=?wq/\k<n/\k<w/\0<?dd/\?ata (c≠k->?f6=0)
def Fs.keep[?hp][?a6h]:∀{k:Nat},?wq->?b3R k T'/\(∀j c,j<k->?a1->T' j c=?ms)/\?b7w (k<=r/\∀j,j<k->?aF=j):=by intro k;induction k with| zero =>intro h;show#[?aCS,?CQ,λr t _ _ _=>#[?a5,?lZ]]| succ k ih =>intro h;let#[hn,hw,hp,hr,hc]:=h;let#[c1,c2,c3]:=ih #[?es,?atH ?aFj,?b3B hr,?b4Z (hc i j hi ?g)];(let key:?b7w (k<r/\?DY/\(?ata (?P9=?f6))):=by intro r t OS hst hz;let ?W0:=?aIi;let hin:=(s.bwd k ?afi).sub OS hz;let ?cM:=?PY;(let v0:?aho:=?b0W (by rw[ht l hl];show hc k l ?afi ?g ?g));let#[x0,_]:=?Y4;let hpk:=?ajg;(let hlt:k<r:=by ext pY;(let:?C7:=by rw[?adp];ext a5f);ext d);(let htk:?DY:=by let g:=?aYH;apply ?azi g;(let:?C7:=by rw[?adp];ext aoW);ext d);let#[_,a2]:=?Y4;ext apb;let ?sk:=s.fwd k ?g;(let e2:?iB=y k*?dd:=by rw[hy k ?aUe];show ?ak ?g λl hl hne=>by rw[hc l k hl ?g hne];simp);(let same:?dd=?iB:=by ext ar5;let d2:?dd∣ ?iB:=#[y k,by rw[e2,qf8]];show Int.le_antisymm ?aDF (qr2 hpk d1));apply#[hlt,htk,λc hcw=>?_];show(?alc hin hlt v0 (by rw[htk];show same) (λl hl1 hl2=>hr k ?am ?g ?aWF ?alj) c hcw).symm);let ?Ph:=s.st;let ?aWa:=?a95;apply#[#[hn,hw,?bf,?aHE,?aNe],λj c hj hcw=>?_,λr t OS hst hz=>?_];{cases e:j=k;{subst e;rw[?b8f k3];show ?aFj};show c1.2.2.1 j ?dw};{cases e:j=k;{subst e;rw[?acO];show ?b35 hr ?g};show ?b35 ?afW ?dw};{cases e:j=k;{subst e;cases e2:?co;{show ?afW i j e2 ?g ?g};cases e3:i<r;{show ?ay9 j j ?a9W};show hz i j ?g hi ?g};show c1.2.2.2.2 i j hi ?dw hne};{cases e:j=k;{subst e;show ?acO};show c2 j c ?dw hcw};let#[a,b,_]:=?a95;let#[_,ht]:=?aIi;apply#[a,?bf];cases e:j=k;{rw[e];show b};show ht j ?dw
abbrev v9[?bu](T Qt:Mat):Prop:=∃T',?Nh/\Fs w n (?axW T') (?axW Qt)
abbrev Straight[?bu](T:Mat):Prop:=?b1z w
def v9.next[?pm][?a6g](h:?wq):?aKz/\(?Yh n w Qt\/?aCi):=by have ?a09:=s;have ?GD:=s1.keep h;have ?aXj:=?aHj;let hc:?aKz:=g1.flip;apply#[hc,?_];have ?Ph:=s1.st;have ?aen:=s2.st;have ?W0:=?aVX;have ?aTj:=?ab3;cases e:k<r;{right;let p:=?I2 k e;let tw:=?tf k e;let tk:k<=?bp:=?zL k e;let hin:=(?DE ?bp tw).sub hqw xU;apply ?eX;let ?cM:=?PY;(let v0:∀l,l<k->?b5A ?Es:=?av1 ?bp ?bp tw);let#[x0,_]:=EY.lead hx k kq v0;apply ?ej;let hkn:k<n:=?g;(let kq2:k<q:=by ext pY;(let:T' k ?bp=0:=by exact ?b5A k;rw[?abf];ext a5f);ext d);(let huk:u k=k:=by apply ?aaT;(let:T' k ?bp=0:=by exact ?b5A k;rw[?abf];apply ?Os;cases e2:l<k;{rw[x0 l e2];simp};exact x l*?a4E=0;ext ap0);ext d);let p2:=?adD;rw[huk]at p2;apply#[hc,hkn,?g,p2,?anA];rcases qj3 c k with z | z;{show hc.2.2.2.2 k c hkn z ?g};cases e3:c<q;{show ?awt e3 e3};show xU c k ?g hcw hkn};left;let T'0:∀i c,?oA->?aZh:=λi c hi hin hcw=>hz i c ?g hin hcw;intro i j hi hj hne;ext a6X;{show hc.2.2.2.1 i j z hj (λw=>hne w.symm)};let ?sk:=?ayF s2.fwd;let:?b9m (Qt i j) (λl=>y l*T' i l):=hy i hi;rw[this];show ?aq λl hl=>by rw[T'0 i l z hi hl];simp
private def v9.less[?pm][?a6g](h:?aNF):?b3R ?F Qt\/(?aCi/\?w3∣ ?dd/\?w3<?dd):=by ext ha;let#[hcl,hn,hw,hp,hr]:=h;let s0:=s;let ?a09:=s;let ?GD:=s1.keep hcl;let ?Ph:=s1.st;let ?W0:=?aVX;let hin:=(s1.bwd k hn).sub OS hz;let ?cM:=?PY;ext hn;(let v0:?aho:=?b0W (by rw[ht l hl];show hr l (qd8 hl hw) ?g));let#[x0,a2]:=?Y4;(let hlt:k<r:=by ext pY;(let:?C7:=by rw[hx k hw];ext a5f);ext d);(let htk:?DY:=by apply ?azi ?aYH;(let:?C7:=by rw[hx k hw];ext aoW);ext d);ext apb;ext ar5;let le1:=qr2 hp d1;(let below:∀i,?M->i≠k->T' i k=0:=λi hi hne=>by ext a6X;{show ?Hn i k z hw ?g};cases e3:i<r;{show ?ay9 k k ?g};show hz i k ?g hi hw);cases same:?iB=?dd;{left;let row:?ata (?f6=?P9):=?alc hin hlt v0 (by rw[htk];show same.symm) (λl hl1 hl2=>hr ?am ?aWF ?alj);(let cl':?b3R ?F T':=by apply#[?es,?bf,?aHE,?aNe];{cases e:j=k;{subst e;show pk};show h1.2.2.1 j ?dw};{cases e:j=k;{subst e;rw[←row c hcw];show hr c hcw hne};show ?b35 ?Hn ?dw};cases e:j=k;{subst e;show ?m5 i hi hne};show h1.2.2.2.2 i j hi ?dw hne);show(s2.keep cl'.flip).1.flip};right;let lt1:?iB<?dd:=?g;ext ha;let#[hc2,q2]:=s0.next hcl;let ?aXj:=?aHj;let ?aen:=s2.st;let ?aTj:=?ab3;let Cc7:=(?DE k hw).sub hqw xU;let ?sk:=id Cc7;(let w0:∀l,l<k->(?awv T' k) ?Es=0:=?av1 k k hw);let#[y0,b2]:=EY.lead hy k kq w0;ext hn;let hyk:?iB=?j (λl=>y l*?a4E) q:=hy k hn;(let kq2:k<q:=by ext pY;(let:?iB=0:=by rw[hyk];show ?ayR y0);ext d);(let huk:u k=k:=by apply ?aaT;(let:?iB=0:=by rw[hyk];apply ?Os;cases e2:l<k;{rw[y0 l e2];simp};ext ap0);ext d);let e3:T' (u k) k=y k*?anD:=b2 kq2;rw[huk]at e3;let p2:0<?anD:=?adD;rw[huk]at p2;let d2:?w3∣ ?iB:=#[y k,by rw[e3,qf8]];let le2:=?aDF;apply#[#[hc2,hn,hw,p2,?anA],zb8 d2 d1,by show Int.lt_of_le_of_lt le2 lt1];rcases qj3 c k with z | z;{show hc2.2.2.2.2 k c hn z ?g};cases e4:c<q;{show ?awt e4 e4};show xU c k ?g hcw hn
abbrev X8(i:Nat):Int:=if i%2=0 then 1 else -1
def BX(i:Nat):X8 ?k=- X8 i:=by unfold X8;cases h:i%2=0;{rw[?z,?b3]};rw[?bD,?ad];rfl
def bA(i:Nat):(X8 i).natAbs=1:=?aJH
abbrev Ib(A:Mat)(i:Nat):Mat:=λr c=>?a1x
abbrev det:Nat->Mat->Int| 0,_=>1| ?r,A=>?xs
def Em:∀{n:Nat}{A B:Mat},(?auX n (?sH=B r c))->?gt=?b9K B| 0,_,_,_=>rfl| ?r,A,B,h=>by ext u7;rw[?aBB,Em (n:=n) (A:=?vl) (B:=Ib B i)];intro r c hr hc;show ?aR3
abbrev Cc(A:Mat)(p:Nat)[?Az]:Mat:=λr c=>if r=p then u c else ?sH
def Bp(A:Mat)(p:Nat)[?Az](c:Nat):Cc A p u p c=u c:=?K
def B4{A:Mat}{p r:Nat}[?gb](h:?ox)(c:Nat):Cc A p u r c=?sH:=?ad
def Y2{A:Mat}{p i:Nat}[?gb](h:i≠p):Ib ?yD i=Cc ?vl ?r4 ?aBs:=by funext r c;exact(if ?J2=p then ?Fk else ?a1x)=if ?OI then ?Fk else ?a1x;(let e:(?J2=p)↔ ?OI:=by ext M2);cases z:?OI;{rw[?b1,?A (e.mpr z)]};rw[?e9,?s λw=>z (e.mp w)]
def K5{A:Mat}{p:Nat}[?gb]:Ib ?yD p=?abw:=by funext r c;exact(if ?aRE=p then ?Fk else ?Nk)=?Nk;rw[?s ?eQ]
def Gc:∀{n p:Nat} (A:Mat) [?Ar] [?mm],p<n->?atA A p ?wR=a*?b9K ?yD+b*?b9K ?Yc| ?r,p,A,u,v,a,b,hp=>by exact ?C2=a*?C2+b*?C2;ext AW;ext u7;cases e:i=p;{subst e;rw[Bp,Bp,Bp,K5,K5,K5];grind};rw[?nl,?nl,?nl,Y2 e,Y2 e,Y2 e];rw[Gc ?vl ?aBs (λc=>v ?bx) a b ?eQ];grind
private def Jl(A:Mat)(p:Nat):?aM8=A:=by funext r c;unfold Cc;split;{rename_i h;rw[h]};rfl
def C0{A:Mat}{p q:Nat}(h:?nu)[?Ar]:?aYQ=Cc ?aT1 p u:=by funext r c;unfold Cc;cases e:r=q;{rw[?cF,?z,?cF]};ext AV
def jK:∀[?MS],?b4X ?dZ (A ?dZ c)| ?r,p,A,hp,h=>by exact ?xs=0;(let same:?ame=?ada:=Em (?asd (by exact ?Nk=?b4d A ?dZ ?bx;cases e:r=p;{subst e;rw[?z,?bD];show(?WU).symm};cases e2:r<p;{rw[?xw,?bD]};rw[?lv,?z])));(let two:?xs=?asS ((?b3r i p ?aUi)+(?b3r i ?dZ ?aLg)) ?r:=by ext u7;cases e1:i=p;{subst e1;rw[?K,?z];simp};cases e2:i=?dZ;{subst e2;rw[?z,?K];simp};rw[?eu,?lv];(let z:?acr=0:=by apply jK (p:=?r4) ?eQ ?h2;exact A (if ?r4<i then ?r4 else ?CW) ?bx=A (if ?CW<i then ?CW else ?CW+1) ?bx;cases e3:p<i;{rw[?NW,?NW,?bD];show ?WU};rw[?a1L,?z,?z,?asC (p-1+1=p)];show ?WU);rw[z];simp);rw[two,De,?azr ?aUi p ?r,?A ?YH,?azr ?aLg ?dZ ?r,?bD];rw[BX,←same,←?aN0];grind
def gU[?MS](hp:?dZ<n)[?Ar]:?atA ?yD ?dZ v=- ?atA ?Yc ?dZ u:=by let ne:p≠?dZ:=?g;(let z:?b6I ?dZ:=λw=>jK hp ?af9);let e0:=?b3D c;rw[?awX ?acq hp,?eU,?eU,?awX (Cc A ?dZ u) ?YH,?awX (Cc A ?dZ v) ?YH]at e0;ext apq
def JI:∀(d:Nat) [?MS],?b4X ?xW (A ?xW c)| 0,n,p,A,hp,h=>jK hp h| ?bg,n,p,A,hp,h=>by (let e:A=Cc (Cc A ?xW (A ?xW)) ?aHT (A ?aHT):=?aA2);rw[e,gU ?g];rw[JI d (p:=p) ?g ?h2];{rfl};rw[?sg,?sg,?sg,Bp];show ?Ho
def Hl[?ke]{A:Mat}[?kh](hq:q<n)(hne:?nu)(h:?avZ n (?gz=A q c)):?Gb:=by rcases qj3 p q with z | z;{show JI ?aMY (p:=p) ?g (by rw[?asC (p+?aMY+1=q)];show h)};show JI ?aZJ (p:=q) ?g (by rw[?asC (q+?aZJ+1=p)];show ?av7 ((?Ho).symm))
def Ag1[?ke](A:Mat)[?kh](hq:q<n)(hne:?nu)(k:Int):?atA A p ?ach=?gt:=by let:=Gc A ?fT ?jP 1 k hp;rw[Jl,Hl (A:=?afh) hp hq hne λc _=>by rw[Bp,B4 ?amt]]at this;rw[←show(λc=>1*?gz+k*A q c)=?ach from ?aw9 ?abR,this];ext d
def MF[?ke]{A:Mat}[?em][?Ar]:?b9K ?aYQ=- ?atA ?Yc q u:=by
 ext aoh
 let e0:=?b3D c;rw[?awX ?acq hq,?eU,?eU,?awX (Cc A q u) hp,?awX ?aT1 hp]at e0;ext apq
def Ag0{n p:Nat}(A:Mat)[?kh]:?atA A p ?aFr=- ?gt:=by let:=?b2f ?bN;rw[Jl]at this;rw[show ?aFr=λc=>-1*?gz+0*?gz from ?aw9 ?g,this];ext d
def uQ[?ke](A:Mat)[?em][?kY](h:?o1=1) : ?b9K (Cc (?b6Q (λk=>a*A p k+b*A q k)) q λk=>c*A p k+d*A q k)=?gt:=by (ext aoh);(let e:?atA ?aM8 q ?jP=?gt:=?aA2);let e2:=MF (A:=A) hp hq ne ?fT ?jP;rw[Gc _ ?fT ?jP c d hq,?eU,?eU,?ayv ?fT,?ayv ?jP];rw[←?eU,←?eU,←?eU,←?eU,z ?fT,z ?jP];rw[e]at e2 ⊢;let e3:?atA ?afh q ?fT=- ?gt:=?g;rw[e3];grind
abbrev prodN[?aI]:?J| 0=>1| ?r=>?Bm
def aA[?aI]:∀n,?a1b=f 0*?ad2| 0=>by simp[prodN]| ?r=>by exact ?a1b*?SD=f 0*(?ad2*?SD);rw[aA f n,qe9]
def bI:∀[?Mi],(?auX r (?sH=0))->?gt=?b5i A j n| 0,_,_=>rfl| ?r,A,h=>by exact ?xs=_;rw[?ak (j:=0) ?g λk hk hne=>by rw[h k 0 hk ?g];simp,aA];rw[bI (n:=n) (A:=?aL6) (?asd (by exact ?b4d A 0 ?bx=0;ext hZ;show h _ _ ?a0V ?uw))];exact 1*A 0 0*?a9 (λj=>A (if j<0 then j else ?a0) ?a0) n=_;rw[qe2];rfl
abbrev jH:?Y| 0=>1| ?r=>?IF
def S5[?aD]{M:Nat}:?b5E (?auq (?Ir<=M)) (?S8<=n*M)| 0,_=>?ak4| ?r,h=>by let a:=S5 (n:=n) ?iZ;let b:=?rq;let c:=?aJL;exact ?agX<=?r*M;rw[qh6,qh3];show ?m c (qu2 a b)
def yI:∀[?Mi]{B:Nat},(?auX n (?Tk<=B))->?X5<=?aFQ| 0,_,_,_=>by simp[det,jH]| ?r,A,B,h=>by exact ?asX ?C2 (?IF*B ^ ?r);(let:?ahY<=?r*(B*?aFQ):=by apply S5 ?k0;rw[qb7,qb7,bA,qh3];show qh0 ?aBB (yI (?asd ?aR3)));apply ?m ?P ?wb;rw[qj2];grind
structure Kx(i:Nat)(R:Mat)[?aj]:Prop where
 inc:?ax8 i
 zero:?agO
 pos:?aeV
def En.s0[?Ak][?S][?Ao]:Kx r R t:=#[?fP,?d5,?bn]
def Kx.low[?At][?S][?pj]{j l:Nat}(hj:?al)(hl:l<j):?x2=0:=?d5 j _ hj (?fP l j hl hj)
private def Zd:∀[?MS],?b4X p 0:=λ{n p A} hp h=>by let:=?b2f 0;rw[show(λc=>0*?gz+0*?gz)=?nO from ?aw9 ?g]at this;rw[show ?gt=?atA A p ?dh from Em (?asd (by unfold Cc;split;{rename_i e;rw[e];show ?Ho};rfl)),this];ext d
def Dx[?aD]:?b5E ?ZU (0<?m0)| 0,_=>?aZx| ?r,h=>?HS (Dx ?iZ) ?rq
abbrev pb(R:Mat)[?aj](k:Nat):?J| 0=>1| ?ae=>?Jq
abbrev Ws(R:Mat)[?aj](k:Nat):?ayu ?J| 0=>R k| ?ae=>λc=>?q1*?aut m c+?K8*R ?gn c
section
variable[?At][?S][?pj]
include h
def wO{k:Nat}:?b4z (0<?zV)| 0,_=>?aZx| ?ae,hm=>?HS (?bn _ ?vG) (wO ?g)
def JM{k l:Nat}(hl:l<k):?b4z (?SA=0)| 0,hm=>?fc hm hl| ?ae,hm=>by ext aoj;rw[JM hl ?g,?alD];simp
def MK{k:Nat}:?b4z (?ad5=?zV*?kT)| 0,_=>by exact ?kT=1*?kT;(ext d)| ?ae,hm=>by exact ?q1*?ad5+?K8*R ?gn ?bp=?Jq*?kT;rw[MK ?g,?fc (j:=?gn) (l:=k) ?vG ?g,qe9];simp
def jM{k:Nat}:∀{m l:Nat},?rV->k<l->l<=k+m->?SA=0| 0,l,_,h1,h2=>?g| ?ae,l,hm,h1,h2=>by ext aoj;cases e:l=?gn;{subst e;rw[qf8,qq6];ext d};rw[jM ?g h1 ?g,?alD];simp
def yQ{W:Nat}{k:Nat}:∀{m:Nat},?rV->?azp (Ws R t k m)| 0,hm=>?bm hm| ?ae,hm=>(yQ ?g).mix (?bm ?vG) _ _
def RO{k:Nat}[?uO]:?b4z (?b8v ?aWs=?zV*?D i ?on)| 0,hm=>by exact ?b8v ((?on) k)=1*_;rw[Jl];(ext d)| ?ae,hm=>by exact ?b8v (λc=>?q1*?aaw+?K8*?aZq)=_;rw[Gc ?on ?aWs ?aQu _ _ ?g,RO s ?g];rw[Hl (p:=k) (q:=?gn) (A:=Cc ?on k ?aQu) ?g ?vG ?g λc _=>by rw[Bp,?sg]];exact _=?Jq*_;rw[qe9];ext d
universe e9
def skip_prod[?aD]{k:Nat}:∀(n:Nat),k<=n->?a9 (λl=>f ?a2H) n=?oO*?aTf| 0,h=>by let:k=0:=?g;ext er;simp[prodN]| ?r,h=>by cases e:k=?r;{subst e;rw[?asC (?r-?r=0)];exact ?a9 _ ?r=?a1b*1;(let:?b9Z ?r (?azx (λl=>f (if l<?r then l else l+1))=?gi):=by intro m;induction m with| zero=>intro _;rfl| succ m ih =>intro hm;exact ?a2h*f (if m<?r then m else ?ae)=?gi*f m;rw[?ce,?A ?wS]);rw[?P _ ?l];ext d};exact ?a9 _ n*f (if n<k then n else ?r)=_;rw[?aPm n ?g,?z,?ass (?r-k=?oR+1) qs8 (qe0 (?xu h e))];exact _=?oO*(?aTf*f ?aWc);rw[?asC (?aWc=?r),qe9]
def iM(R:Mat)[?aj](k:Nat):∀m,?zV=?azx (λl=>R ?Hr (t ?Hr))| 0=>rfl| ?ae=>by exact ?Jq=?a2h*?q1;rw[iM R t k m,qf8]
abbrev FT[?aj](k c:Nat):?Y| 0=>c| l+1=>?BA
def A67[?At][?S][?pj]{k c:Nat}(hk:k<i){D:Nat}(hD:?asw ?D ?H4 D):(?aut ?Zl c).natAbs<=D:=by
 let hm:k+?Zl<i:=?a4P hk;let e1:=RO h (k:=k) (FT t k c) hm
 let hu0:∀l,l<i->l≠k->?aut ?Zl ?am=0:=λl hl hne=>by
  rcases qj3 l k with z | z
  . show JM h z hm
  . show jM h hm ?g (Ar.arn2 _ hl)
 obtain⟨n,rfl⟩:∃n,i=?r:=#[i-1,by show(qo3 (Nat.one_le_of_lt hm)).symm]
 let e2:?b7X (Cc ?H4 k λl=>?aut ?xS ?aKE)=X8 k*?aut ?xS c*?a9 (λl=>R ?a2H ?BA) n:=by
  exact ?asU (X8 j*Cc _ k _ j 0*?b9K (Ib (Cc _ k _) j)) ?r=_;rw[?ak (j:=k) hk ?U0]
  . rw[Bp,K5]
    congr 1
    apply bI λr l hr hl=>?_;exact ?b4d R k ?BA=0;apply ?fc ?eQ ?_;ext M2
  . rw[Y2 hne,Zd (p:=if k<j then k else ?dg) ?eQ ?KF]
    . simp
    . rw[Bp];exact ?aut ?xS ?BA=0;show hu0 _ ?eQ ?eQ
 rw[e1]at e2;rw[?aPm (f:=?mL) n (qe0 hk),←iM,?amG]at e2;rw[?amG];let pp:=wO h (k:=k) (m:=?oR) ?g;let qp:0<?aC3:=Dx λj hj=>?bn j (qd8 hj hk);let e3:=?cv ?VU e2;rw[qb7,qb7,qb7,qb7,bA,qh3]at e3;let p1:0<?ni:=?n1 pp;let q1:1<=?abO:=?rI qp
 let:?ni*?ON<=?ni*D:=by
  calc ?ni*?ON<=?ON*(?abO*?ni):=by
        rw[?aal ?ni];show ?azj (qq2 _ q1)
   _=?ni*(?b7X ?H4).natAbs:=e3.symm
   _<=_:=?azj hD
 show qw8 ?P p1
def GL[?At][?S][?pj]:?D i ?nW=?vZ:=bI (?asd (?fc hr hc))
def cE[?aD]:∀{n j:Nat},?ZU->?aU->?bR<=?m0| ?r,j,h,hj=>by let p:=Dx (n:=n) ?iZ;let q:=?rq;exact ?bR<=?Bm;cases e:j=n;{subst e;let:1*?bR<=?b0v j*?bR:=qn0 ?g (qh8 q);ext d};let ih:=cE (n:=n) (j:=j) ?iZ ?dw;let:?m0*1<=?Bm:=qq1 ?g ?Gf;ext d
def Af1[?At][?S][?pj]{D:Nat}(hD:?asw ?D ?nW D){j:Nat}(hj:?al):?dl<=D:=by rw[GL h]at hD;let a:=cE (f:=?mL) ?aFA hj;let b:=Dx (f:=?mL) (n:=i) ?aFA;ext d
def Kx.none{W i:Nat}{R:Mat}[?S][?pj](ht:?Kx)[?ep](hv:?adu)(h0:?atr (?yb=0)):?avZ W (v c=0):=by let ?cM:=hv;(let x0:?b9Z i (∀j,j<m->x j=0):=by intro m;induction m with| zero=>intro _ j hj;(ext d)| succ m ih =>intro hm j hj;cases e:j<m;{show ih ?g j e};let ej:j=m:=?g;subst ej;let e1:=hx ?aF (?b8f ht);rw[?b8f h0,?ak (j:=j) ?g ?a2e]at e1;{rcases ?wm e1.symm with z | z;{show z};let:=?aKh;ext d};cases e2:k<j;{rw[ih ?g k e2];simp};rw[?fc hk ?a9W];simp);intro c hc;rw[?jp];show ?au9 (by rw[x0 i ?l k hk];simp)
def In.sum{W i:Nat}{R:Mat}{a:?J}{U:Mat}:∀{m:Nat},(∀j,j<m->?azp (U j))->In W i R (λc=>?RG)| 0,_=>?Ok W i R| ?ae,h=>by let:=(?O9 (a:=a) (U:=U) (m:=m) λj hj=>?b8f h).mix (h m ?g) 1 (a m);show this.congr λc _=>?b6L (1*?RG+?xx) ?RG ?xx
def Xm[?aI]:∀(n k:Nat),k<n->?m0=?oO*?aOe| ?r,k,h=>by cases e:k=n;{subst e;rw[?asC (?F-1-k=0)];exact ?oO*f k=?oO*(1*f k);rw[qe2]};exact ?Bm=_;rw[Xm f n k (?de h e),?asC (?xS=?zT+1)];exact _=?oO*(?a9 _ ?zT*f ?aWn*f k);rw[?asC (?aWn=n)];grind
def Bk0[?aD]:∀{n k:Nat},(∀l,l<n->0<f l)->k<n->?oO*f k<=?m0:=λ{n k} h hk=>by rw[Xm f n k hk];let a:=Dx (n:=k) λl hl=>h l (qd8 hl hk);let b:0<?aH4:=Dx λl hl=>h _ ?g;let c:=h k hk;let d:1*f k<=?aOe:=qn0 ?g (qh8 c);rw[qe2]at d;show qq1 d (qh8 a)
def zX{W i:Nat}{R:Mat}[?S][?pj](ht:?Kx)[?ep](hv:?adu){κ D c:Nat}(hc:c<W)(hκ:?atr (?aZC<=κ*?ic))
 (hD:∀k,k<i->?asw ?D ?H4 D):?aFi<=i*?TS:=by
 let hp:∀l,l<i->0<(?mL) l:=?b0W (?bn l hl);let EP:=Dx (n:=i) hp
 let key:?vZ*v c=?a4N:=by
  let hin:?azp (λc=>?aT6) :=
   hv.mix (?O9 (a:=λj=>?PI) (U:=λj=>Ws R t j ?zk) λj hj=>yQ h ?Sa) _ _
  let:=h.none ht hin ?ok c hc
  . exact _=_;let t:?aT6=0:=this;ext d
  . exact ?vZ*v ?x7+?bN*?asU (?PI*?ae8) i=0;rw[?ak (j:=m) hm ?U0]
    . rw[MK h (?a4P hm),iM,Xm ?mL i m hm]
      grind
    . let:?ae8=0:=by
       rcases qj3 m j with z | z
       . show JM h z ?Sa
       . show jM h ?Sa (?xu z hne) (Ar.arn2 _ hm)
      ext j2
 let e:=?cv ?VU key;rw[qb7]at e
 let le:?asX ?a4N (i*(?Sd*?TS)):=by
  apply S5 ?bf;rw[qb7,qb7];let a1:=?ayF hκ;let a2:=A67 h hj (?ayF hD);let a3:=Bk0 hp hj;let a4:=Dx (n:=j) λl hl=>hp l (qd8 hl hj);let a5:=?ayF hp
  let a6:?EO*?ic<=?Sd:=by
   rw[←qb7];let:0<?Z6*?dl:=?HS a4 a5;show ?aLW ?P a3
  calc ?aZC*?EO*(?aOw).natAbs
   ≤ κ*?ic*?EO*D:=qh0 (?axc a1) a2
   _=?EO*?ic*?TS:=?b9
   _<=_:=?axc a6
 rw[←e]at le;let E1:0<?Sd:=?n1 EP;apply qw8 (?m le ?wb) E1
 grind
def In.trans{W n m:Nat}{R R':Mat}[?ep](hv:?aAz)(h:?b0U m):In W m R' v:=by let ?cM:=hv;show(?O9 (a:=x) (U:=R) h).congr λc hc=>(?jp).symm
abbrev vL(W n:Nat)(R R':Mat):Prop:=(?b9M (In W n R (R' j)))/\(?b0U n)
def vL.refl(W n:Nat)(R:Mat):?axC R:=#[?aR8,?aR8]
def vL.trans{W n:Nat}{R S T:Mat}(h1:?axC S)(h2:vL W n S T):?axC T:=#[?atH ((h2.1 j hj).trans ?lW),?atH ((h1.2 j hj).trans h2.2)]
abbrev Go(n:Nat)(R R':Mat):Prop:=∀s:?Y,(?D n (?axV R')).natAbs=(?b9K ?th).natAbs
def Go.refl(n:Nat)(R:Mat):?azU R:=?Ex
def Go.trans{n:Nat}{R S T:Mat}(h1:?azU S)(h2:Go n S T):?azU T:=λs=>?b1q h2 s (h1 s)
def Py(R:Mat)(p:Nat)[?Az][?uO]:(λr l=>Cc R p u r ?cP)=Cc ?th p (λl=>u ?cP):=by funext r l;unfold Cc;ext ho
abbrev addR[?pa](k:Int):Mat:=Cc R p ?abe
def C4[?pa](k:Int)(c:Nat):?an R p q k p c=?agt:=Bp ..
def Ec[?MH]{k:Int}(h:?ox)(c:Nat):?an R p q k r c=?gF:=B4 h c
def Ah7[?ke](R:Mat)[?em](k:Int):?azU ?kw:=λs=>by unfold addR;rw[Py];let:=Ag1 ?th hp hq ne k;rw[show(λl=>1*R p ?cP+?aJq)=λl=>R p ?cP+?aJq from ?dA λl=>?abR,this]
def Ah6{W n p q:Nat}(R:Mat)[?em](k:Int):?axC ?kw:=by ext La;{cases e:j=p;{subst e;show(?Yj ?aFe 1 k).congr λc _=>(C4 R j q k c).symm};show ?ve λc _=>(?Yz).symm};cases e:j=p;{subst e;apply((?auw ?aIk).mix (?bm (R:=?aIk) hq) 1 (-k)).congr ?aRt;rw[C4,Ec ?hw];exact 1*(1*?hU+k*R q c)+-k*R q c=?hU;rw[qq6];ext d};show ?b8J ?kw ?Yz
abbrev Iu(R:Mat)(p:Nat):Mat:=Cc R p λc=>- ?ih
def Ad8{n p:Nat}(R:Mat)[?kh]:?azU ?nj:=λs=>by unfold Iu;rw[Py,Ag0 ?th hp,qd2]
def Ad7{W n p:Nat}(R:Mat)[?kh]:?axC ?nj:=by ext La;{cases e:j=p;{subst e;show(?Yj ?ww ?bN 0).congr ?aeT};show ?ve λc _=>(B4 e c).symm};cases e:j=p;{subst e;show((?aDg).mix ?aDg ?bN 0).congr ?aeT};show ?b8J ?nj (B4 e c)
abbrev blendR[?pa][?kY]:Mat:=Cc (Cc R p ?adi) q ?aHf
def Ip{R:Mat}{p q:Nat}(ne:?nu)[?kY](k:Nat):?awr p=?aRV:=by unfold blendR;rw[B4 ne,Bp]
def K9[?pa][?kY](k:Nat):?awr q=?aSq:=by unfold blendR;rw[Bp]
def Fd[?MH](h1:?ox)(h2:r≠q)[?kY](k:Nat):?awr r=R r k:=by unfold blendR;rw[B4 h2,B4 h1]
def VA[?ke](R:Mat)[?em][?Lq]:?azU ?sY:=λs=>by unfold blendR;rw[Py,Py];rw[uQ ?th hp hq ne a b c d h]
def vA{W n p q:Nat}(R:Mat)[?em][?Lq]:?axC ?sY:=by ext La;{cases e:j=p;{subst e;show(?Yj ?aFe a b).congr λk _=>(?aAk).symm};cases e2:j=q;{subst e2;show((?bm hp).mix ?ww c d).congr λk _=>(?b3S j).symm};show ?ve λk _=>(?aHR).symm};cases e:j=p;{subst e;apply((?auw ?aIu).mix (?bm (R:=?aIu) hq) d (-b)).congr ?Yx;rw[?iJ,K9];(let:R j k=?o1*R j k:=?DC);grind};cases e2:j=q;{subst e2;apply((?bm (R:=?aeF) hp).mix (?auw ?aeF) (-c) a).congr ?Yx;rw[?iJ,K9];(let:R j k=?o1*R j k:=?DC);grind};show(?auw ?sY).congr λk _=>?aHR
abbrev moveR(R:Mat)(i s:Nat):Mat:=λr c=>if r<s then ?gF else if r=s then ?jN else if ?eR then R ?jt c else ?gF
def lO{n:Nat}:∀(d:Nat) (R:Mat) {i s:Nat},?M->i=s+d->?azU ?iF| 0,R,i,s,hi,e=>by (let:?iF=R:=by funext r c;ext hj;ext aoT);rw[this];show Go.refl n R| ?bg,R,i,s,hi,e=>by obtain⟨j,rfl⟩:∃j,i=?a0:=#[i-1,?g];(let h1:?azU ?TU:=λt=>by rw[Py,Py,gU ?g,qd2];rw[show Cc (Cc ?nW j ?ang) ?a0 (λl=>?b0f ?a0)=?nW from by let:=Jl ?nW j;rw[?b2V (?ang=(?nW) j),this];show Jl ?nW ?a0]);let h2:=lO (n:=n) d ?TU (i:=j) (s:=s) (qg6 hi) ?g;(let e3:?cL ?TU j s=?cL R ?a0 s:=by funext r c;ext hj;cases e1:r<s;{rw[?un,?un,?sg,?sg]};rw[?eu,?eu];cases e2:r=s;{rw[?xw,?xw,?b55 j ?a0,Bp]};rw[?lv,?lv];cases e4:?cA;{rw[?A e4,?A (?asC (r<=?a0)),?b55 ?jt ?a0,?b55 ?jt j]};rw[?No];cases e5:r=?a0;{subst e5;rw[Bp,?bD];rfl};rw[?b5q (r<=?a0),B4 e5,?b55 r j]);rw[e3]at h2;show ?A5 h2
def xF{W n:Nat}(R:Mat){i s:Nat}[?pZ]:?axC ?iF:=by ext La;{cases e1:j<s;{show ?ve ?aBv};cases e2:j=s;{show(?bm hi).congr λc _=>by ext hj;rw[?eu,?xw]};cases e3:?ea;{show(?bm (R:=R) (j:=?eF) ?aBK).congr (?azP ?NW)};show ?ve (?azP ?a1L)};cases e1:j<s;{show ?aLr ?aBv};cases e2:j=i;{show(?bm (R:=?iF) (j:=s) ?g).congr λc _=>by ext hj;rw[?z,?K,e2]};cases e3:?al;{show(?bm (R:=?iF) (j:=?a0) ?g).congr λc _=>by ext hj;rw[?z,?z,?bD];rfl};show ?aLr λc _=>by ext hj;ext a5Y
def U8{f g:?J}[?ke][?em](h:?auq (k≠p->k≠q->?a3x))(e:f p+f q=g p+g q):?gh=?IH:=by (let z:?adB=?T8+?W5:=by (let e1:?adB=?asc (?b3r k p ?T8+?b3r k q ?W5) n:=by apply ?Y9;cases e1:k=p;{subst e1;rw[?K,?gj];ext d};rw[?eu];cases e2:k=q;{subst e2;rw[?K];ext d};rw[?lv,h k hk e1 e2];ext d);rw[e1,De,?azr ?T8 p n,?A hp,?azr ?W5 q n,?A hq]);rw[De,Bd]at z;ext d
abbrev pT(n:Nat)(B R:Mat)(a b:Nat):Int:=?aaM
def nY[?ke](B R:Mat)[?em](k:Int)(a b:Nat):?ayK ?Qv ?kw:=by apply ?az6 (by rw[Ec h2,Ec h1]);rw[Ec (r:=p) (p:=q) ne,C4 R p q k,C4 B q p (-k),Ec ?hw];grind
def Aw5{n p:Nat}(B R:Mat)(a b:Nat):?ayK ?Pd ?nj:=by apply ?Ty;cases e:k=p;{subst e;unfold Iu;rw[Bp,Bp,Int.neg_mul_neg]};unfold Iu;rw[?nl,?nl]
def lC[?ke](B R:Mat)[?em][?Lq](x y:Nat):pT n ?Zz ?sY x y=pT n B R x y:=by
 apply ?az6 (by rw[?alr,?alr]);rw[?iJ,?iJ,K9,K9];let e1:?ajN=?o1*?ajN:=?DC
 let e2:?aAw=?o1*?aAw:=?DC
 grind
def fK[?aI]:∀(d:Nat) {n i s:Nat},?M->i=s+d->?b9I (λr=>if r<s then f r else if r=s then ?aC else if ?eR then f ?jt else f r)=?gh| 0,n,i,s,hi,e=>Ag λr _=>by ext aoT| ?bg,n,i,s,hi,e=>by rw[←fK f d (n:=n) (i:=i) (s:=s+1) hi ?g];apply U8 (p:=s) (q:=s+1) ?g ?g ?g (λr _ h1 h2=>?_) ?_;{cases e1:r<s;{rw[?un,?bD]};rw[?eu,?f2,?b5q (r<s+1),?gp]};rw[?z,?K,?z,?z,?bD,?bD,?z,?K];exact ?aC+f (s+1-1)=f s+?aC;rw[?asC (s+1-1=s)];ext d
def Ac2{n:Nat}(B R:Mat){i s:Nat}[?pZ](a b:Nat):?ayK ?VG ?iF:=by exact ?asc (?cL B i s k a*?cL R i s k b) n=?aaM;rw[←fK ?afz (i-s) (n:=n) (i:=i) (s:=s) hi ?aSJ];apply Ag λr _=>?_;ext hj;split;{rfl};split;{rfl};ext ho
abbrev pD[?bu][?ci][?dU]:Int:=?ast (?Vv*B j c) n
abbrev Gu[?bu][?ci]:Prop:=?b1L ?aaO
abbrev dot[?bu][?Ar]:Int:=?ast (u ?jM*v c) n
def Fc[?bu](u v x:?J)[?mm]:?az4 ?wR x=?b7H v x:=by unfold dot;ext AW;show ?aub (by rw[qu1,qe9,qe9])
def Ie[?bu](u x y:?J)[?mm]:?az4 u (λc=>a*x c+b*y c)=?b7H u y:=by unfold dot;ext AW;show ?aub ?b9
def cH[?bu][?ci][?dU]:?aaO=?amE:=rfl
def Qr[?pa](k:Int):?an R p q k p=?abe:=?aw9 (C4 ..)
def addR_row_ne[?MH]{k:Int}(h:?ox):?an R p q k r=R r:=?aw9 (Ec h c)
def blend_row_p{R:Mat}{p q:Nat}(ne:?nu)[?kY]:?axm p=?adi:=?dA λk=>?aAk
def blend_row_q[?pa][?kY]:?axm q=?aHf:=?dA λk=>?b3S q
def blend_row_ne[?MH](h1:?ox)(h2:r≠q)[?kY]:?axm r=R r:=?dA λk=>Fd h1 h2 a b c d k
def Gu.add{n w p q:Nat}[?AS][?em](k:Int):?awO ?kw ?Qv:=λi j hi hj=>by ext a5T;rw[cH];cases e1:i=p;{subst e1;rw[Qr];cases e2:j=q;{subst e2;rw[Qr,Ie,Fc,Fc,?fH,?aND,?a15,?alC];rw[?gj,?K,?K,?s ?hw];ext d};rw[?o0 e2,Fc,?fH,?alz,?b4j q j ?Bt];ext d};rw[?o0 e1];cases e2:j=q;{subst e2;rw[Qr,Ie,?fH,?aKd,?aIA];ext d};rw[?o0 e2];show ?fH
def Gu.neg{n w p:Nat}[?AS][?kh]:?awO ?nj ?Pd:=λi j hi hj=>by ext a5T;(let s1:∀(R:Mat),Iu R p p=λc=>-1*?ih+0*?ih:=λR=>?aw9 ?an8);let s2:∀(R:Mat) {r:Nat},?ox->Iu R p r=R r:=λR r hr=>?aw9 (B4 hr c);rw[cH];cases e1:i=p;{subst e1;cases e2:j=i;{subst e2;rw[s1,s1,Ie,Fc,?S6];rw[?K];ext d};rw[s1,s2 B e2,Fc,?fH,?Bt];ext d};cases e2:j=p;{subst e2;rw[s1,s2 R e1,Ie,?fH,?eu];ext d};rw[s2 R e1,s2 B e2];show ?fH
def Gu.blend{n w p q:Nat}[?AS][?em]{a b c d:Int}(h1:?o1=1):?awO ?sY ?Zz:=λi j hi hj=>by ext a5T;let ne':q≠p:=?hw;rw[cH];cases e1:i=p;{subst e1;rw[?z3];cases e2:j=i;{subst e2;rw[?z3,Ie,Fc,Fc,?S6,D q j hq hi,D j q hi hq,D q q hq hq];(ext L8);grind};cases e3:j=q;{subst e3;rw[blend_row_q,Ie,Fc,Fc,?a15,D j i hq hi,?b7c D j hq,D j j hq hq];(ext L8);grind};rw[?a12,Fc,?fH,?alz,show ?KO from ?Bt,show ?asy q j from ?b4a e3];ext d};cases e4:i=q;{subst e4;rw[blend_row_q];cases e2:j=p;{subst e2;rw[?z3,Ie,Fc,Fc,?aND,?fH,?alC,?a15];(ext L8);grind};cases e3:j=i;{subst e3;rw[blend_row_q,Ie,Fc,Fc,D p p hp hp,D j p hi hp,D p j hp hi,?S6];(ext L8);grind};rw[?a12,Fc,D p j hp hj,?fH,?b4j p j ?Bt,show ?KO from ?b4a e3];ext d};rw[?Ic e1 e4];cases e2:j=p;{subst e2;rw[?z3,Ie,?fH,?b7c D q hq,?auk ?KO ?eu,?b4j i q ?No];ext d};cases e3:j=q;{subst e3;rw[blend_row_q,Ie,?aKd,?fH,?aIA,?auk ?KO ?No];ext d};rw[?a12];show ?fH
abbrev mvI(i s r:Nat):Nat:=if r<s then r else if r=s then i else if ?eR then ?jt else r
def move_row(R:Mat)(i s r:Nat):?cL R i s r=R ?kH:=by funext c;unfold moveR mvI;split;{rfl};split;{rfl};ext ho
def LM{i s:Nat}(hs:?tK)(r:Nat):(if ?kH<s then ?kH else if ?kH=i then s else if ?kH<i then ?kH+1 else ?kH)=r:=by unfold mvI;cases a1:r<s;{rw[?ta,?ta]};rw[?sF];cases a2:r=s;{rw[?DD,?s (Nat.not_lt.mpr hs),?K];show a2.symm};rw[?GW];cases a3:?eR;{rw[?A a3,?z,?z,?bD];ext d};rw[?s a3,?sF,?z,?z]
def Gu.move{n w i s:Nat}[?AS][?pZ]:?awO ?iF ?VG:=λx y hx hy=>by rw[cH,move_row,move_row];(let l:∀r,r<n->?kH<n:=λr hr=>?U3);let:=h _ _ (l x hx) (l y hy);rw[cH]at this;rw[this];let inj:(mvI i s x=mvI i s y)↔x=y:=#[λe=>by rw[←LM hs x,e,LM hs y],?cv _];cases e:x=y;{rw[?cF,?A (inj.mpr e)]};rw[?iE,?b8D e inj.mp]
structure Good(n W w lo:Nat)(R B R' B':Mat):Prop where
 eqv:?b14 lo (vL W m R R')
 det:?b14 lo (Go m R R')
 pt:∀a b,?ayK B' R'
 dual:?aiN->?awO R' B'
 rest:∀r c,lo<=r->?aLG
 restB:∀r c,lo<=r->B' r c=B r c
def Good.refl(n W w lo:Nat)[?ci]:?atV R B:=#[λm _=>vL.refl W m R,λm _=>Go.refl m R,?ib,id,?sb,?sb]
def Good.trans[?Mh]{R B R' B' S C:Mat}(h1:?a3b)(h2:?du n W w lo R' B' S C):?atV S C :=#[?axA (?b8L h1.eqv h2.eqv),?axA (?b8L h1.det h2.det),λa b=>(h2.pt a b).trans (h1.pt a b),λd=>h2.dual (h1.dual d),?auY (?b6s h2.rest h1.rest),?auY (?b6s h2.restB h1.restB)]
def Good.mono{n W w lo lo':Nat}[?MV](h:?a3b)(hl:lo<=lo'):?b7S lo':=#[?axA (h.eqv m ?aDZ),?axA (h.det m ?aDZ),h.pt,h.dual,?auY (h.rest r c ?aE5),?auY (h.restB r c ?aE5)]
def Good.add{n W w lo p q:Nat}[?ci][?arW](k:Int):?atV ?kw ?Qv :=#[?avH Ah6 k,?avH Ah7 k,λa b=>nY B R ?g ?g ne k a b,λd=>d.add ?g ?g ne k,?aKv,?aKv]
def Good.neg{n W w lo p:Nat}[?ci](hp:p<lo)(hn:?BR):?atV ?nj ?Pd :=#[?axA (Ad7 R ?g),?axA (Ad8 R ?g),λa b=>Aw5 B R a b,λd=>d.neg ?g,?aOF,?aOF]
def Good.blend{n W w lo p q:Nat}[?ci][?arW][?Lq]:?atV ?sY ?Zz :=#[?avH vA h,?avH VA h,λx y=>lC B R ?g ?g ne h x y,λe=>e.blend ?g ?g ne h,?aJZ,?aJZ]
def Good.move{n W w lo i s:Nat}[?ci](hi:i<lo)(hs:?tK)(hn:?BR):?atV ?iF ?VG :=#[?axA (xF R ?g hs),?axA (lO (i-s) R ?g ?aSJ),λa b=>Ac2 B R ?g hs a b,λd=>d.move ?g hs,?abH,?abH]
def Gu.row{n w i:Nat}[?AS][?hr]:∃c,c<n/\?Vv≠0:=by apply qi4 ?f3;let e:=?b7c h i hi;rw[?K]at e;unfold pD at e;rw[?aq ?h2]at e;{cases e};let:?Vv=0:=?b7h y;ext j2
def RG{x h:Int}{K:Nat}(hh:0<h)(hx:?awe (K*h.natAbs)):?a7n<=K:=by let e:(h.natAbs:Int)=h:=?g;(let hx':(x.natAbs:Int)<=?Ff*h:=by rw[←e];exact_mod_cast hx);(let u1:x / h<=?Ff:=by let:x<=?Ff*h:=?g;show Int.ediv_le_of_le_mul hh ?P);(let u2:-?Ff<=x / h:=by apply(Int.le_ediv_iff_mul_le hh).mpr ?_;rw[qq6];ext d);ext d
structure Part(R:Mat)[?aj](f m:Nat):Prop where
 inc:∀j k,?nU->j<k->k<m->?Hq
 zero:∀j c,?b1i ?a40
 pos:∀j,?b1i ?A6
 red:∀k j,f<=k->k<j->j<m->?a07
structure VJ(n W w lo:Nat)[?ci][?aj](p f m j μ:Nat)(R' B':Mat):Prop where
 good:?a3b
 same:?aa8
 left:∀c,(?b7A m (c<?am))->?yP=?ih
 red:?b7A j ?aK4
 rel:∀l,j<=l->l<m->?asX ?pF ?KI
 ins:∀W',∃v:?J,In W' lo R v/\∀c,?yP=?ih+v c
def VJ.start[?Mh][?ge][?S]{p f m μ:Nat}[?aq7]:?att f R B :=#[?Cd,?sb,?ib,?av5 ?g,?av5 (by rw[qk3,zc8,qh3];show h l h1 h2),λW'=>#[?dh,?Ok W' lo R,λc=>?b6L ?ih ?ih 0]]
def HR[?pa]:?an R p q 0=R:=by funext r c;cases e:r=p;{subst e;rw[C4];ext d};show ?Yz
def VJ.step[?Mh][?MV][?S]{p f m j μ:Nat}(h:?att j R' B')(P:?Dy)(hf:?nU)(hj:j<m)[?arJ] : ?aQw<=?b8I j/\?att ?a0 ?aJR ?aYU:=by let hh:=P.pos j hf hj;let ne:p≠j:=?g;let q1:=RG hh (h.rel j ?l hj);apply#[q1,?_];generalize hq:?ug=q at q1;let rj:∀c,?abZ:=λc=>h.same j c ?hw;apply#[?K7 ?_,?aiA,?h2,?t5,?t5,λW'=>?_];{let:=?aeN (n:=n) (W:=W) (w:=w) (lo:=lo) R' B' hp (?asC (j<lo)) hn ne ?kt;rw[qs7]at this;show this};{rw[Ec hr];show h.same r c hr};{rw[C4,?azL h.left,rj,?UR j c hf hj (hc j hf hj)];simp};{rw[C4,rj];cases e:l=j;{subst e;let d1:=qp0 ?pF (?asC (?oF≠0));let d2:=qm3 ?pF hh;let d3:=?aMn ?pF ?oF;rw[hq]at d3;let d4:?oF*q=q*?oF:=?p0;rw[qq6];ext d};let z:?x2=0:=?UR j _ hf hj (P.inc l j h1 ?a8W hj);rw[z,qe1,qe5,qe2];show ?jk l h1 ?a8W};{rw[C4,rj];let a:=h.rel l ?g h2;let ?Tr:=P.red j l hf ?i1 h2;let b:?asX ?x2 ?ll:=?zI b1 b2;let c:=qg9 (1*?pF) ?aPT;rw[qe2]at c;rw[qe2];(let d:?asX ?aPT ?KI:=by rw[qb7,qd2];show qh0 q1 b);rw[?ass (?a0-f=(j-f)+1) qs8 hf,qj2];(let e:2 ^ (j-f)*2*μ*?ll=?KI+?KI:=?b9);ext d};let#[v,hv,hc]:=h.ins W';apply#[λc=>1*v c+?kt*?hU,hv.mix (?bm ?g) 1 ?kt,λc=>?_];rw[C4,hc c,rj];grind
abbrev Bits(n W b:Nat)(R:Mat):Prop:=?auX W (?tc<?aT)
def MO{x y a k:Int}{b c:Nat}(hx:?b3F ?aT)(hy:y.natAbs<?aT)(ha:a.natAbs<?bS)(hk:?aNh):?ahQ<2 ^ ?v0:=by
 let e:=?aDe;rw[qb7,qb7]at e;let u:a.natAbs*x.natAbs<?Ka:=?awg qn2 ha hx
 let v:k.natAbs*y.natAbs<?Ka:=?awg qn2 hk hy
 rw[?a3e,qj2];show ?BD e u v
def Bits.mono{n W b b':Nat}[?u4](hb:b<=b'):?ab2:=?aFC
def Bits.add{n W b c p q:Nat}[?u4][?kh][?a63]:?awR ?v0 ?kw:=λr x hr hx=>by cases e:r=p;{subst e;rw[C4];(let h1:?Qb<2 ^ ?bx:=by let:1<=?bS:=qo4;rw[qj2];exact 1<_;ext d);let e1:=qg9 (1*?xh) (k*R q x);rw[qe2,qb7]at e1;rw[qe2];(let u:k.natAbs*(R q x).natAbs<?Ka:=?awg qn2 hk ?aIt);let v:?aUP<?Ka:=?aa4;rw[?a3e,qj2];show ?BD e1 v u};rw[Ec e];show ?aa4
def Bits.blend{n W b e p q:Nat}[?u4][?em][?apB]:?awR ?aDi ?aO3:=?asd (by cases e1:r=p;{subst e1;rw[?iJ];show MO ?kN ?aRR hx hy};cases e2:r=q;{subst e2;rw[K9];show MO ?aiO ?kN hz hu};rw[?abl];show qb0 ?kN ?oI)
def Bits.neg{n W b p:Nat}[?u4]:?awR b ?nj:=?asd (by unfold Iu;cases e:r=p;{subst e;rw[Bp,qd2];show ?kN};rw[?nl];show ?kN)
def Bits.move{n W b i s:Nat}[?u4][?pZ]:?awR b ?iF:=?asd (by rw[move_row];show h _ c ?U3 hc)
structure Ew[?u0](R0 B0:Mat)[?aj](π b:Nat)(spot:Nat)[?ci]:Prop where
 good:?O4
 zero:?agO
 pos:?aeV
 old:∀j c,spot<=j->?al->?hU=R0 j c
 pass:∀j c,?zB->c<=?aF->?tB
 pv:∀l,spot<=l->?b7j R
 gc:?b1H (2 ^ ?Jj)
structure Me[?u0](R0 B0:Mat)[?aj](π b:Nat):Prop where
 hi:?M
 part:?hR R0 t 0 i
 lt:?Kx
 hd:?b5m ?afO ?b7
 rw:?b64 i (G c->?asX ?Nv ?aT)
 ri:∀c,G c->?asw R0 c ?aT
 rp:∀l,?b7j R0
def Part.sub{R:Mat}[?S]{f f' m:Nat}(h:?Dy)(hf:f<=f'):?b2m f' m:=#[λj k h1=>?fP j k ?Fl,λj c h1=>?d5 j c ?Fl,λj h1=>?bn j ?Fl,λk j h1=>?jk k j ?Fl]
def Part.congr{R R':Mat}[?S]{f m:Nat}(h:?Dy)(e:∀j c,?b1i ?abZ):?hR R' t f m :=#[?fP,?aze (?b9C c ?VB),?av2 (?b9C _ ?NN),λk j h1 h2 h3=>by rw[e k _ h1 ?aPV,e j _ ?g h3];show ?aIT]
def Ew.start[?dN]{R0 B0:Mat}[?S]{π b:Nat}(h:?OW):?asj 0 R0 B0:=by apply#[?Cd,?b50 (h.part.zero j c ?a5 hj hc),?atH (h.part.pos j ?a5 hj),?Ws,?CQ,λl _ hl=>h.rp l hl,?l6];let e:?aT<=2 ^ (?tP+0*?fK):=?oI;cases z:r=i;{subst z;show ?m (?azL h.ri) e};show ?m (?awC h.rw r (?xu hr z)) e
def Ew.skip[?dN][?mb][?S][?Am](h:?W4)(hz:∀c,?ro->?tB):?asj ?aP R B:=by apply#[h.good,?d5,?bn,?b3B ?gs,?oV,?b0W (h.pv l ?g),?asd (?m ?O2 (?b7i ?_))];{cases e:?hP;{subst e;show ?azL hz};show ?awC h.pass j ?dw};rw[qh6];ext d
structure eE[?u0][?ci][?aj](b p spot μ:Nat)(R' B':Mat):Prop where
 good:?b7S ?k
 same:?aa8
 left:∀c,?ro->?yP=?ih
 red:?atq ?aK4
 gc:∀c,G c->?aEh<=?aTH+?b1m μ
structure FE[?u0][?ci][?aj](b p spot μ j:Nat)(R' B':Mat):Prop where
 s:VJ n W w ?k R B t p ?aP i j μ R' B'
 gc:∀c,G c->?aEh+μ*?aT<=?aTH+?YT
def FE.start[?dN][?ge][?S][?a74][?a5Z]:?atZ ?aP R B :=#[?aSE ?aMq,λc _=>by rw[qk3,zc8,qh3];ext eq]
def FE.step[?dN][?MV][?S]{b p spot μ j:Nat}(h:?atZ j R' B')[?a6n][?a5m](hf:spot<j)(hj:?al)[?a6b] : ?aQw<=?a1A/\?atZ ?a0 ?aJR ?aYU:=by let#[q,s]:=h.s.step P ?g hj ?g ?g ?g ?g;apply#[?m q (?axc (?b7i (qe7 ?aBK))),s,?h2];let ne:p≠j:=?g;rw[C4,?aSG j c ?hw];let a:=?aYK;let e:=qg9 (1*?yP) (-?ug*?hU);rw[qe2,qb7,qd2]at e;rw[qe2];let m:=qh0 q (hG j c hf hj hc);rw[?ass (?a0-?aP=?Pn+1) qs8 (qx2 hf),qj2];(let z:2 ^ ?Pn*2*μ*?aT=?YT+?YT:=?b9);ext d
def FE.done[?dN][?MV][?S][?a74](h:?atZ i R' B')(P:?Q7):?b0H R' B' :=#[h.s.good,?aSG,λc hc=>h.s.left c (?av5 (by let:=?b7v P;ext d)),?av5 (h.s.red l ?g h2),?av7 (by let:=?aYK;show ?Bq ?P)]
def Ee{a b:Nat}(h:a<=b):2 ^ a<=?aT:=?aRN
def Ae1{x y a b:Nat}(hx:x<=2 ^ a)(hy:y<=?aT):x*y<=2 ^ ?jB:=?awg qh0 hx hy
def Ew.addPre[?dN][?mb][?S][?Am][?mN][?mi]{q:Int}(hq:?a1o) : ?atq ((?b7p i).natAbs<=?q3*(?b7p l).natAbs):=λl h1 h2=>by rw[C4,Ec ?WK];ext aoK;let a:=?Vt;let e:=qg9 (1*?b0f i) (-q*?akW);rw[qe2,qb7,qd2]at e;rw[qe2];let m:q.natAbs*?adv<=?De:=qh0 hq ?a86;let m2:?b7*1<=?De:=?azj (?rI p);rw[qj2];(let z:?b7*2*?ll=?De+?De:=?b9);ext d
def Ew.metAdd[?dN]{R0 B0 R B R2 B2:Mat}[?S][?Am][?mN][?mi]{q:Int}(hq:?a1o)[?Lh][?arg] (S:eE n W w i G ?a7s ?aDr t b i ?o ?q3 R2 B2):?asj ?aP R2 B2:=by let ne:i≠spot:=?g;(let keep:∀r c,?Jr->R2 r c=?gF:=?auY (by rw[?sa r c hr,Ec hr]));apply#[?_,?b50 (?b9W ?aAu ?aDL),?atH (by rw[?h1 j _ ?g];show ?BU),λj c hj hji=>?b9W ?aAu ?aWY,?oV,?t5,?l6];{let g:=?aeN (n:=n) (W:=W) (w:=w) (lo:=?k) R B ?a9y ?aZc ?hA ne ?kt;rw[qs7]at g;show ?aRi S.good};{(let ts:?ro:=by cases e:?hP;{rw[←e];show hc};let:=?pD j ?o ?a5 ?dw hs;ext d);rw[S.left c ts,C4];cases e:c=?gJ;{rw[e,he,qe2,qq6];ext d};rw[hz c ?a9E,?d5 ?o c hs ?a9E];simp};{let#[a,c]:=?b7v S.red;rw[Ec ?WK]at c;let d:=?amc;rw[←?Ou]at d;show ?aCe};ext aoi;generalize hz2:?Jj=z;(let hzb:?tP<=z:=?abp);cases e:r=i;{subst e;let a:=?azL S.gc;let g:=?awC ?qR r ?l;rw[hz2]at g;(let rs:?aa9:=?aio);let e1:=qg9 (1*?gF) (-q*?rG);rw[qe2,qb7,qd2]at e1;rw[C4,qe2]at a;let m1:=Ae1 hq rs;(let m2:2 ^ (r-?aP)*?q3*?aT<=?a4q:=?aDx);let m3:?ayl π b<=?a4q:=?axT Ee;(let m4:4*?a4q=2 ^ z:=?av8 z (z-2));(let m5:2*2 ^ z<=2 ^ ?aLt:=by rw[?asC (?aLt=1+(z+π)),qf2];show qh0 ?L ?dK);ext d};rw[?h1 r c e];let g:=?O2;rw[hz2]at g;show ?m g ?dK
structure SN(π:Nat)(h0 o0 x y z u:Int):Prop where
 one:x*u-y*z=1
 hd:0<x*h0+y*o0
 ot:z*h0+u*o0=0
 lx:?RM
 ly:?YE
 lz:?b33 z.natAbs
 lu:?b33 u.natAbs
def qQ{x y a c:Int}{π h:Nat}(hx:?RM)(hy:?YE)(ha:?b0c h)(hc:?b33 c.natAbs)(h1:1<=h):(x*a+y*c).natAbs<=?fR*h:=by
 let e:=qg9 (x*a) (y*c);rw[qb7,qb7]at e;let m1:x.natAbs*a.natAbs<=?Jt:=qh0 (?m hx ?dK) ha;let m2:y.natAbs*c.natAbs<=?Jt:=?m (Ae1 hy hc) (by rw[?asC (π+π=?oU)];show ql1 _ h1);rw[qj2];let z:2 ^ ?oU*2*h=?Jt+?Jt:=?b9
 ext d
def Ew.blendPre[?dN][?mb][?S][?Am][?mN][?mi][?a5a] : (?atD ?o)/\(?atD i):=by ext a6I;(let base:?atq (?adv<=?ll/\1<=?ll):=?av5 (by ext aoK;show#[?a86,?rI p]));apply#[?t5,?t5];{rw[?iJ,?TD];show ?b15 e.lx e.ly};rw[K9,?TD];show ?b15 e.lz e.lu
def Ew.metBlend[?dN]{R0 B0 R B R2 B2 R3 B3:Mat}[?S][?Am][?mN][?mi][?a5a][?Lh] (S1:eE n W w i G ?Zg (?bw B ?o i u (-z) (-y) x) t b ?o ?o ?fR R2 B2) (S2:eE n W w i G R2 B2 t b i ?o ?fR R3 B3):?asj ?aP R3 B3:=by ext a6I;(let keep:∀r c,?Jr->?aPD->R3 r c=?gF:=λr c h1 h2=>by rw[S2.same r c h1,?vC r c h2,Fd h2 h1]);let rs:∀c,R3 ?o c=R2 ?o c:=λc=>S2.same ?o c ne;(let r2i:∀c,R2 i c=z*?rG+u*?jN:=λc=>by rw[?vC i c (λw=>ne w.symm),K9]);let gz:?avZ ?gJ (?rG=0):=?av7 (?d5 ?o c hs hc);apply#[?_,?oV,?bf,λj c hj hji=>by rw[?h1 j c ?g ?g];show ?aWY,?oV,?t5,?l6];{let g:=Good.blend (n:=n) (W:=W) (w:=w) (lo:=?k) R B ?aZc ?a9y ?hA ne e.one;show ?b1q ?aRi S1.good S2.good};{cases e1:?hP;{subst e1;rw[rs,S1.left c ?g,?iJ,?azL gz,?azL hz];simp};rw[?h1 j c ?g e1];show ?aDL};{cases e1:?hP;{subst e1;rw[rs,S1.left _ ?l,?iJ];show e.hd};rw[?h1 j _ ?g e1];show ?BU};{(let ts:?ro:=by cases e1:?hP;{rw[←e1];show hc};let:=?pD j ?o ?a5 (?de hj e1) hs;ext d);rw[S2.left c ts,r2i];cases e1:c=?gJ;{rw[e1];show e.ot};rw[hz c ?aWp,gz c ?aWp];simp};{let#[a,c]:=?b7v S2.red;rw[?aKk,?TD]at c;let d:=?amc;rw[←?Ou]at d;show ?aCe};ext aoi;let g0:=?awC ?qR ?o ?g;let gi:=?awC ?qR i ?l;let gr:=?O2;generalize hz2:?Jj=zz at g0 gi gr;(let hzb:?tP<=zz:=?abp);(let rsb:?aa9:=?aio);(let bnd:∀[?mq],?RM->?YE->(x*?rG+y*?jN).natAbs+?b1m ?fR<=2 ^ ?a1F:=λ{x y} hx hy=>by let e1:=qg9 (x*?rG) (y*?jN);rw[qb7,qb7]at e1;let m1:=Ae1 hx rsb;let m2:=Ae1 hy gi;(let m3:?b1m ?fR<=?Or:=?aDx);let m4:?ayl π b<=?Or:=?axT Ee;(let m5:4*?Or=2 ^ zz:=?av8 zz ?aLw);let m6:2 ^ zz<=2 ^ ?a51:=?dK;(let m7:2 ^ ?a1F=2*2 ^ ?a51:=by rw[?asC (?a1F=1+?a51),qf2,Nat.pow_one]);ext d);cases e1:r=i;{subst e1;let a:=?azL S2.gc;rw[r2i]at a;show ?m a (bnd e.lz e.lu)};cases e2:?Th;{subst e2;let a:=?azL S1.gc;rw[?iJ]at a;rw[rs];show ?m a (bnd e.lx e.ly)};rw[?h1 r c e1 e2];show ?m gr ?dK
abbrev insT[?aj](s st:Nat):?Y:=λr=>if r<s then t r else if r=s then st else t ?jt
structure Ins[?u0](R0 B0:Mat)(t1:?Y)(Y:Nat)[?ci]:Prop where
 good:?O4
 s0:Kx ?k R t1
 lt:?axU (?Vq<W)
 pg:?axU (G ?Vq)
 gc:?b1H ?HJ
def Ew.ins[?dN][?mb][?S]{π b spot st:Nat}[?mN][?aog] : ?avS ?aCN ?agF:=by (let row:∀c,?aIM=?jN:=λc=>by ext u3;rw[?z,?K]);(let lo:?b64 spot (?Fp=?gF):=?auY (by ext u3;rw[?Jv]));(let up:?ayx (?eR->?Fp=R ?jt c):=λr c hr hi=>by ext u3;rw[?z,?z,?gQ]);let gm:?du n W w ?k R0 B0 ?ul ?WW:=?K7 (Good.move R B ?g hs ?hA);(let tl:∀j,?zB->?aF<st:=?atH (by apply ql0 λz=>h1 (h.pass j st hj z)));(let inc:∀j k,j<k->k<?k->?wD<?b0q st k:=λj k hjk hk=>by unfold insT;cases a1:?zB;{rw[?ta];cases b1:k<spot;{rw[?A b1];show ?pD j k ?a5 hjk ?g};rw[?s b1];cases b2:k=spot;{rw[?A b2];show tl j a1};rw[?s b2];show ?awp j};rw[?sF,?b5q (k<spot),?b5q (k=spot)];cases a2:?hP;{rw[?DD];let e:=hex ?g;cases e2:?dg=spot;{rw[e2];show e};show qd8 e (?awp ?o)};rw[?GW];show ?awp ?eF);(let zero:∀j c,?vq->c<?wD->?ayB j c=0:=?b50 (by unfold insT at hc;cases a1:?zB;{rw[?ta]at hc;rw[lo j c a1];show ?awC ?d5 j ?g};rw[?sF]at hc;cases a2:?hP;{rw[?DD]at hc;rw[a2,row];show ?azL h0};rw[?GW]at hc;rw[up j c (?od a1 a2) ?t8];show ?awC ?d5 ?eF ?g));(let Bh8:∀j,?vq->j≠spot->0<?ayB j ?wD:=λj hj hne=>by unfold insT;cases a1:?zB;{rw[?ta,lo j _ a1];show ?aKh};rw[?sF,?Zi,up j _ (?od a1 hne) ?t8];show ?bn ?eF ?g);(let ts:?b0q st ?o=st:=?TP);(let bd:∀r c,?eR->G c->?asX ?Fp (2 ^ ?qQ):=?asd (by rw[move_row];(let lm:mvI i ?o r<=i:=by unfold mvI;cases a1:r<spot;{rw[?ta];ext d};rw[?sF];cases a2:?Th;{rw[?DD];ext d};rw[?GW,?Jv];show za2 (qg4 hr));apply ?m (?qR _ c lm hc) (Ee ?_);let:=qc7 ?fK hs;show ?JE));(let lt:?axU (?wD<W):=?atH (by unfold insT;split;{show ?b8f H.lt};split;{show hW};show H.lt ?eF ?g));(let pg:?axU (G ?wD):=?atH (by unfold insT;split;{show ?b8f hpg};split;{show hG};show hpg ?eF ?g));cases neg:?xM;{rw[?A neg,?A neg];let nr:∀c,Iu ?ul ?o ?o c=- ?aIM:=λc=>Bp ..;let nn:∀r c,?aPD->Iu ?ul ?o r c=?Fp:=?auY (B4 hr c);apply#[gm.trans (Good.neg _ _ (qk1 hs) ?hA),#[inc,?oV,?bf],lt,pg,?l6];{cases e:?hP;{let z:=?anr;rw[e]at z ⊢;rw[nr,z];rfl};rw[nn j c e];show ?anr};{cases e:?hP;{rw[e,nr,ts];ext d};rw[nn j _ e];show ?aQq};cases e:?Th;{let z:=?aje;rw[e]at z ⊢;rw[nr,qd2];show z};rw[nn r c e];show ?aje};rw[?s neg,?s neg];apply#[gm,#[inc,zero,?bf],lt,pg,bd];cases e:?hP;{rw[e,ts];(let:?aIj≠0:=by rw[row];show h1);ext d};show ?aQq
structure Ss(n W w i:Nat)(R0 B0:Mat)[?aj](k:Nat)[?ci]:Prop where
 good:?O4
 s0:?aNj
 old:?b64 k (?gF=?Nv)
 red:∀r j,k<=r->r<j->?ea->0<=R r ?aF/\R r ?aF<?dl
 hd:?axU (?dl=?afO)
def Ss.start{n W w i:Nat}[?ge][?S](h:?aNj):Ss n W w i R B t ?k R B:=#[?Cd,h,?sb,?az0 ?g,?ib]
def Ss.part{n W w i:Nat}[?mb][?S]{k:Nat}(h:?ay4 k R B):?b2m k ?k:=#[λj l _ h1 h2=>?b8P ?Qf l,λj c _ h1 h2=>?b8P ?aIS c,λj _ h1=>?aEz j h1,?az0 (?jk r j h1 h2 (qe0 h3))]
def Ss.next{n W w i:Nat}{R0 B0 R B R' B':Mat}[?S]{k μ:Nat}(h:?ay4 ?F R B)(hk:?oA)(S:VJ n W w ?k R B t k ?F ?k ?k μ R' B'):?ay4 k R' B':=by (let tl:∀c,c<=?bp->R' k c=?oy:=λc hc=>S.left c (?av5 (by let:=?Qf k l ?i1 h2;ext d)));apply#[?K7 S.good,#[?Qf,?oV,?bf],?aiA,?az0 ?_,?bf];{cases e:j=k;{subst e;rw[tl c ?g];show ?ajY};rw[?sa j c e];show ?ajY};{cases e:j=k;{subst e;rw[?aFM];show ?ami};rw[?aCy];show ?ami};{rw[?sa r c ?g];show ?gs r c ?g};{rw[?sa j _ (?asC (j≠k))];cases e:r=k;{subst e;show S.red j ?g (qk1 h3)};rw[?sa r _ e];show ?azD r ?g};cases e:j=k;{subst e;rw[?aFM];show ?aKm};rw[?aCy];show ?aKm
structure E5[?u0](M B0:Mat)[?aj][?ci]:Prop where
 good:?ayh i M
 st:En W i R t
 pg:?ND
def E5.start(n W w:Nat)[?a6m][?aj]:E5 n W w 0 G M B0 t M B0:=#[?Cd,#[?lZ,λj k _ hk=>?g,?CQ,?lZ,λk j _ hj=>?g],?lZ]
def E5.next[?dN]{M B0 R B R1 B1 R2 B2:Mat}{t t1:?Y}{Y:Nat}[?pQ](I:?awk R B t1)(D:?aAj):E5 n W w ?k G M B0 t1 R2 B2 :=#[(?b1q h.good.mono ?g I.good).trans D.good,#[?atH (I.lt j ?t8),D.s0.inc,D.s0.zero,?anf,λk j h1 h2=>D.red k j ?a5 h1 ?ZQ],?atH (I.pg j ?t8)]
def E5.rows{n W w:Nat}[?gV][?S][?a6U](hw:w<=W):Fs n w M R:=by let e:=?aEM;let cut:∀{S:Mat}[?ep],In W n S v->?axj S v:=λ ?cM=>#[x,?av7 ?aHd];apply#[?b66 (cut (e.1 i hi)),?b66 (cut (e.2 i hi)),?_];(obtain⟨r,hr,h1,h2⟩:?aY4:=by (let:?aNv:=by intro m;induction m with| zero=>ext apa| succ m ih =>ext aqG;{(let hrm:r=m:=?axg ?yG);show ?ajs};ext aok);show ?aLE);show#[r,t,hr,?af6,?ahp]
abbrev unit(e:Int)(j:Nat):?J:=λc=>if c=j then e else 0
meta abbrev tr(T:Mat):Mat:=?aVS
structure Ky(n w r:Nat)(e:Int)(T:Mat):Prop where
 rn:?d3
 rw:?jo
 row0:?agw
 col0:?aZK
 rows:?aY5
 cols:?aGZ
def Ky.flip[?Ls](h:?E3):Ky w n r e ?l9:=#[h.rw,h.rn,?b92 (?Xh c i h3 h1 h2),?b92 (h.row0 c i h2 h3 h1),h.cols,h.rows]
def Yd{n w r r':Nat}{e:Int}{T:Mat}[?S](he:0<e)(hr:?jo)(hr':r'<=n)(hst:En w r' T t)(hz:∀i c,r'<=i->?aGn)[?aph] : r'=r/\?Ob/\?FF:=by (let tl:∀j,j<r'->?aF<r:=?atH (by ext pY;let p:=?HL;rw[hc j ?aF ?g z (?tf j hj)]at p;ext d));(let main:∀j,j<=r->j<=r'/\(?azc ?DY)/\?azc (?dd∣e):=by intro j;induction j with| zero=>intro _;show#[?a5,?Tq,?Tq]| succ j ih =>intro hj;let ?QM:=?ce;let ?cM:=(Ob j ?Hh).sub hr' hz;(let v0:?azc (?ei e j ?bp=0):=?az2 (by rw[b k hk];show ?z));let#[x0,x1]:=?Mz hx j a v0;let ej:?a0b=e:=?K;(let lt:j<r':=by ext pY;(let:?a0b=0:=by rw[?aVe];show ?au9 (?b8W ?g));ext d);(let tj:?aF=j:=by apply ?azi (?zL j lt);(let:?a0b=0:=by rw[?aVe];apply ?aq ?h4;cases e1:k<j;{rw[x0 k e1];simp};rw[?oe k j hk (qb0 z (?aDs j k ?g hk))];simp);ext d);let d:=x1 lt;rw[tj,ej]at d;apply#[lt,?h4,?h4];{cases e1:k=j;{rw[e1];show tj};show b k ?afE};cases e1:k=j;{rw[e1];show#[x j,by rw[d,qf8]]};show c k ?afE);let ?QM:=main r ?l;apply#[?azi a,b,c];let:=tl r z;let:=?zL r z;ext d
def BR[?Ls][?S](OS:?d3)(hrw:?jo)[?aqi][?aph]:?aGZ:=by (let ch:∀j,∃x:?J,j<r->?ata (?aid=?j ?zx r):=λj=>by cases hj:j<r;{let ?cM:=(?ayF Ob).sub OS hz;show ?aU4};show(?azz hj));obtain⟨X,hX⟩:∃X:?cK,∀j,j<r->?b80 ?aid j ?f6:=?azt ch;(let key:∀i,i<r->∀j,j<r->?ast (?jg*X c j) r=?aO0:=by intro i hi;(let hz0:∀c,?a1->(?nO) c=?aGU:=by intro c hcw;(let e1:?aGU=?asU (?j (λd=>?R1*?ms) r+?bN*(?SP*(e*?ms))) r:=by apply ?aXa;rw[Int.sub_mul,←Dw];cases z:i=j;{subst z;rw[?K,?K];ext d};rw[?e9,?b0o y.symm];ext d);rw[e1,De,Bd,Eo (λj=>e*?ms) i r,?gQ,Cf];(let e2:?j (λd=>?asU (?R1*?ms) r) r=?j (λd=>T i d*?ei e d c) r:=by apply Ag ?x4;rw[hX d hd c hcw,←Bd];show ?S0);rw[e2];exact ?cu=_;cases hcr:c<r;{rw[?ak (j:=c) hcr λd hd hne=>by exact ?b8d 0;rw[?s ?Uc];simp];exact ?cu=?axq ?jg c+-1*(e*?jg);rw[?K,qf8];ext d};rw[?aq λd hd=>by exact ?b8d 0;ext hZ;simp,hc i c ?g ?g hcw];simp);let#[a,_]:=?Mz hz0 r ?l ?ib;intro j hj;let:=?ayF a;ext d);intro i hi;apply#[λc=>if c<r then X c i else 0,λc hcn=>?_];exact ?ei e i c=?adr;(let e1:?adr=?aF6:=by (let:?b14 r (?vb->?j ?aJB m=?aF6):=by intro m;induction m with| zero =>intro h1 _;let:r=0:=?g;ext er;rfl| succ m ih =>intro h1 h2;cases q:r=?ae;{subst q;apply ?Y9;rw[?mJ,qf8]};exact ?KD+?b0P m m m=_;rw[?aEw,?z];simp);show ?P w hrw ?l);rw[e1];cases hcr:c<r;{rw[key c hcr i hi];rfl};rw[?au9 (by rw[hz c k ?g hcn ?g];simp)];show ?z
def Fs.square[?B3]{e:Int}[?a6h][?Lu]:Ky n w r e T'/\∃t,?yT/\?Ob/\?atz (T' j j∣e):=by ext ha;let#[r',t,hr',hst,hz]:=s.st;(let hc:?auj (r<=c->?aYu):=λi c hi h1 h2=>by let ?cM:=s.fwd i hi;rw[hx c h2];show ?au9 (by rw[?Xh k c hk h1 h2];simp));let Ob:?atz (In w n T' ?aV0):=?atH ((h.rows j hj).trans s.bwd);let ?IT:=Yd he h.rw hr' hst hz hc Ob;ext hn;subst e1;show#[#[h.rn,h.rw,hz,hc,Ob,BR h.rn h.rw hst hz hc Ob],t,hst,e2,e3]
def TF[?Ls][?S][?Lu](hst:?aCa)(ht:?Ob)(hd:?FF){i c:Nat}[?hr](hc:?a1):?ajE:=by cases a:i<r;{cases b:c<r;{let l:=qr2 he (hd c b);rcases qn7 i c with z | z | z;{let:=hst.red i c z b;rw[ht c b]at this;ext d};{subst z;let:=?I2 i a;rw[ht i a]at this;show#[qh8 ?P,l]};rw[?oe i c a (by rw[ht i a];show z)];ext d};rw[?Xh i c hi ?g hc];ext d};rw[h.row0 i c ?g hi hc];ext d
def oX[?B3]{T:Mat}[?S](OS:?d3)[?aqi]:?b9k ?NH:=by (let main:∀m i,i<m->m<=r->?b4s ?zo:=by intro m;induction m with| zero=>intro i hi;(ext d)| succ m ih =>intro i hi hm;cases q:i<m;{show ih i q ?g};let qi:i=m:=?g;subst qi;(let up:∀k,?oA->In n w ?l9 (λd=>?j ?agh k):=by intro k;induction k with| zero=>intro _;show ?aYB| succ k ihk =>intro hk;let hk2:=ih k ?WP ?g;(obtain⟨g,hg⟩:∃g,?wV=?a56*g:=by (let:∀m,?F<=m->∃g,?aHU=?a56*g:=?at3 ?F);show ?P i ?g);apply((ihk ?g).mix hk2 1 (T k ?fz*g)).congr ?aaf;exact 1*?j _ k+?aw3 (T k ?fz*g) k ?a56=?j _ k+?aw3 (T k ?fz*?wV) k 1;rw[hg];cases z:d=k;{rw[?b1,?b1];grind};ext M1;ext d);let col:In n w ?l9 (tr T ?fz):=?bm ?aE6;apply(col.mix (up i ?l) ?wV ?bN).congr ?x4;exact ?wV*T d ?fz+-1*?j ?agh i=?U1;cases z:d<i;{rw[?ak (j:=d) z λl hl hne=>by rw[?s ?Uc];simp,?K];rw[?auk (?U1=0) ?z];grind};rw[?aq λl hl=>by ext hZ;simp];cases z2:d=i;{subst z2;rw[?auk (?ei ?adH d d=?adH) ?K];exact _=?b8x d*T d (t d);ext d};rw[show ?U1=0 from ?s z2];(let:T d ?fz=0:=by cases z3:d<r;{show ?ac5 z3 (?od z z2)};show hz d _ ?g hd ?aE6);ext j2);intro i hi;(obtain⟨g,hg⟩:∃g,?NH=?zo*g:=by (let:?b14 ?k (∃g,?aHU=?zo*g):=?at3 ?k);show ?P r hi);apply((main r i hi ?l).mix ?aYB g 0).congr ?aaf;exact ?aw3 g i ?zo+0*0=if d=i then ?NH else 0;cases z:d=i;{rw[?b1,?b1,hg];grind};ext M1;ext d
def v9.square[?hp]{T T' Qt:Mat}{r:Nat}[?S][?ap9]:?jo/\Ky n w r ?qp Qt/\∃u,En n r ?yY u/\?aKe/\?atz (Qt j j∣ ?qp):=by ext apk;let#[q,u,hq,EY,xU]:=s2.st;(let hrw:?jo:=by cases z:r=0;{ext d};let:=?zL ?jt ?aGv;let:=?tf ?jt ?aGv;ext d);(let hc:?b2M w (r<=c->c<n->tr Qt i c=0):=λi c hi h1 h2=>by let ?cM:=s2.fwd i hi;rw[hx c h2];show ?au9 (by rw[show tr T' k c=0 from hz c k h1 h2 hk];simp));let Ob:?atz (In n w ?yY (?ei ?qp j)):=?atH ((oX hr hst hz j hj).trans ?DE);let ?IT:=Yd he hr hq EY xU hc Ob;subst e1;let sq:Ky w n q (?a9 ?aJQ q) ?yY:=#[hrw,hr,xU,hc,Ob,BR hrw hr EY xU hc Ob];show#[hrw,?QY,u,EY,e2,e3]
def WB:∀[?Mi],(?auX n (?Tk<=1))->(∀c r r',c<n->r<n->r'<n->?sH≠0->A r' c≠0->r=r')->?X5<=1| 0,_,_,_=>by simp[det]| ?r,A,h1,h2=>by exact ?ahY<=1;cases e:∃r,r<?r/\A r 0≠0;{let#[r,hr,hne]:=e;rw[?ak (j:=r) hr λk hk hkr=>?b5H hkr (h2 0 k r ?g hk hr z hne)];rw[qb7,qb7,bA,qh3];(let ih:=WB (n:=n) (A:=Ib A r) (?awD (h1 _ _ ?eQ ?uw)) λc x x' hc hx hx' a b=>by let:=h2 ?bx (if x<r then x else x+1) (if x'<r then x' else x'+1) ?uw ?eQ ?eQ a b;split at this<;>split at this<;>ext d);show ?m (qh0 (h1 r 0 hr ?g) ih) ?L};rw[?au9 (?b5H e #[k,hk,z])];decide
def jJ{n p:Nat}(A:Mat)[?kh](a:?J)(U:Mat):∀m,?atA A p ?a88=?Z8| 0=>by exact ?atA A p (λc=>?cu)=0;show Zd hp λc _=>Bp ..| ?ae=>by (let e:?b1C ?ann ?a88 ?xx:=?aw9 (?b6L (?VS+?xx) (1*?VS) ?xx));rw[e,Gc A _ _ 1 (a m) hp,jJ A hp a U m];exact 1*?Z8+?b8A m=?Z8+?b8A m;rw[qe2]
abbrev AQ[?uO]:Mat:=λr l=>if ?cP=r then 1 else 0
abbrev KN(T:Mat)[?uO](k:Nat):Mat:=λr l=>if r<k then AQ s r l else T r ?cP
def tH[?a5k]{k:Nat}(hk:k<i):?aJv=?dd*?D i (KN T s ?F):=by (let e0:?RB=?b6R ?RB ?Hf:=by funext r c;cases z:r=k;{subst z;rw[Bp];exact ?b4R r _;rw[?z];cases y:?iG<?c1;{rw[?ak (j:=?iG) y λj _ hne=>?av9 ?Hf ?Xb];let:AQ s ?iG c=1:=?K;rw[this];simp};rw[?aq λj hj=>?av9 ?Hf ?z];show h r ?iG hk ?g};rw[B4 z]);ext apx;{congr 1;apply Em ?l6;cases z:r=k;{subst z;rw[Bp];exact ?b26 ?sn ?q7;rw[?bD]};rw[B4 z];exact ?b4R k (if r<?F then ?sn else ?q7);cases y:r<k;{rw[?Je,?bD]};rw[?Fe,?z]};ext apQ;exact(if j<k then ?Hf else T j ?iG)=_;rw[?A (?de hj hne)]
def pZ[?a5k]:?b7y ?aPc ?aJv| 0,_=>?b8z (1*?D i (KN T s 0)) ?sn ?q7| ?F,hk=>by rw[pZ h s k ?g,tH h s ?WP];ext aqu
def At4[?a5k]:?asX ?VN ((?ajr).natAbs):=by rw[pZ h s i ?l,qb7];(let e:?asw ?D (KN T s i) 1:=by (let k:∀r c,r<i->?auo (KN T s i r c) ?iG r:=?auY (by exact ?b4R i _;rw[?Jv];rfl));apply WB ?l6 λc r r' hc hr hr' a b=>?_;{rw[?aK8];split<;>decide};rw[?aK8]at a;rw[k r' c hr']at b;split at a;{split at b;{ext d};show ?X ?h b};show ?X ?h a);show ?m (?azj e) ?g
abbrev Su(n:Nat)(G:?eD)(M:Mat)(D:Nat):Prop:=∀i,?ec->∀s:?Y,?afl->?asw ?D (λr l=>M r ?cP) D
def E5.detsD[?MW][?gV][?S][?M3][?pQ](hi:i<=m){s:?Y}(hs:?afl):?asw ?D ?th D:=by rw[h.good.det i ?l s];show hD i hi s hs
def E5.headD[?MW][?gV][?S][?M3][?pQ](hi:i<=m){j:Nat}(hj:?al):?ic<=D:=by let:=Af1 ?XW (?b2J hi) hj;let p:=?aJu;show ?FE ?P p
def E5.rowD[?MW][?gV][?S][?M3][?pQ](hi:i<=m)[?MB]{r c:Nat}(hr:r<i)(hc:G c):?tc<=i*D:=by let:=zX ?XW ?rS (?bm hr) (κ:=1) (D:=D) ?Pp ?bf λk hk=>?Rs hD hi ?KF;{rw[qh3]at this;show this};{rw[qh3];rcases qn7 r j with z | z | z;{let ?js:=?Fa r j z hj;show ?zI a b};{rw[z];show ?l};rw[h.st.s0.low hr z];show ?a5};cases l with| zero=>show hc| succ l=>show h.pg _ ?eQ
def E5.putD[?MW][?gV][?S][?M3][?pQ](hm:i<=m)[?hr][?MB]{b0 π b:Nat}(hM:∀c,G c->?asw M c ?Ga)[?aqo]:?aKn:=by apply#[hi,?XE,?rS,?atH (?m (h.headD hD hm hj) h1),?asd (?b8b hm hGW hr),?h2,?KF];{rw[?Kh i c ?l];show ?m (?azL hM) ?aKQ};rw[?Kh i _ ?l];show ?m (hM _ (h.pg l hl)) (Ee h3)
def Ky.free[?Ls][?Lu]{m:Nat}(hm:m<=r){x:?J}(hx:?ata (?ZE=0)):∀k,?aJX:=by intro l hl;let ?sk:=h.cols l ?g;(let e1:?aPO=0:=?aq λc hc=>?ayb ?jp);(let e2:?aPO=?asc (x k*?akA) m:=by rw[show ?aZF=λc=>?asc (x k*(y c*?f6)) m from ?aw9 (by rw[←Bd];show ?SQ)];rw[Cf];apply ?Y9;rw[hy k (by let:=h.rn;ext d),←Bd]);rw[e2,?ak (j:=l) hl λk _ hne=>?av9 ?akA ?Zi]at e1;let:?ei e l l=e:=?K;rw[this]at e1;rcases ?wm e1 with z | z;{show z};ext d
def ZT[?uD]{e:Int}{T M B0 R B:Mat}[?Lu](hM:?b65 (M k c=?f6))(hi:i<r)(g:?ayh ?k M)(hW:?Pb)(d:?awO M B0):∃c,?a1/\?jN≠0:=by let rn:=h.rn;apply qi4 ?f3;let z0:∀c,?ac7:=?av7 (?b7h y);let ?cM:=(g.eqv ?k ?l).1 i ?g;(let x0:=h.free he (m:=?k) ?g (x:=x) λc hc=>by rw[←?azL z0,?aWP];show ?b9b (by rw[?awC hM k ?g]));let#[c,hc,hne]:=(g.dual d).row (i:=i) ?g;apply hne ?_;rw[hx ?jM ?g];show ?au9 (?b8W hk)
structure Vs(n W w r:Nat)[?Lp](M:Mat):Prop where
 zero:∀j c,?cA->?aU->c<?cH->M j c=0
 inc:∀j k,?cA->j<k->k<n->?cH<kt k
 ge:?asz (w<=?cH)
 lt:?asz (?cH<W)
 head:?asz (M j ?cH=?lO)
 pos:?asz (0<?lO)
 red:∀k j,?cA->k<j->?aU->0<=?Wh/\?Wh<?lO
structure Ct(n W w r i:Nat)[?a6m][?Lp][?aj][?ci]:Prop where
 st:?aT5
 tab:?atz (?al->?aF<w)
 ker:∀j,?cA->?al->?aFa
def Ct.start(n W w r:Nat)[?a6m][?Lp][?aj]:Ct n W w r 0 G M B0 kt hd t M B0:=#[?a7K ..,?aiM,?aiM]
private def Ct.next[?uD][?uL]{M B0 R B R1 B1 R2 B2:Mat}[?hW]{Y spot st:Nat}[?arf](hi:i<r)(hst:st<w)(hs:?hN)(I:?awk R B ?fb)(D:?ay5 R1 B1 ?fb):?avw ?fb R2 B2:=by apply#[?a4y I D,?qm,?aH6];unfold insT;split;{show ?w5 j h1 ?g};split;{show hst};show ?w5 ?eF (qy5 h1) ?g
def Ct.skip[?uD][?gV][?hW][?A9](hn:?M){spot c:Nat}[?mi](hc:?ro):?tB:=by rw[?VI];apply ?nY i c hi hn ?_;let g:=K.ge i hi hn;cases z:?rP;{let:=?w5 ?o z hs;ext d};let:=(?xC ?o ?g hs).1;let:=?qC ?o i ?g hs hn;ext d
def Vd(R:Mat)(i:Nat):?cL R i i=R:=by funext r;ext u3;cases a:r<i;{rw[?GC]};rw[?Hg];cases b:r=i;{rw[?A b,b]};rw[?uT,?z]
def Ct.ins[?uD][?gV][?hW]{π b:Nat}[?A9](H:?aKn)(hG:G ?eY):?az9 ?qQ/\?aZG:=by (let all:?aZG:=by intro spot;induction spot with| zero=>intro _;show Ew.start H| succ s ih=>intro hs;show(?ce).skip λc hc=>?O3 K hi ?hA (qb4 hs) hc);apply#[?_,all];(let e:R i ?eY=hd i:=by ext a68;show ?qh i hi ?hA);let p:=?z9 i hi ?hA;let:=(all i ?l).ins H ?l (st:=?eY) (?av7 (by rw[?VI];show ?nY i c hi ?hA hc)) ?g (K.lt i hi ?hA) hG ?VF ?ak8;rw[Vd,Vd,?z,?z]at this;show this
private def Ct.nextK[?uD][?uL]{M B0 R B R2 B2:Mat}[?hW]{Y:Nat}[?A9](hn:?M)(I:?az9 Y)(D:?ay5 R B ?gG):?avw ?gG R2 B2:=by ext apt;ext a5N;apply#[?a4y I D,?av2 (by rw[t1 j ?aGx];show ?w5 j h1 ?aGx),?qm];rw[D.hd j ?ZQ];cases z:j=i;{rw[z,t2];show#[?h,by ext a68;show ?aAi]};rw[t1 j ?aE2];show ?xC j h1 ?aE2
def Ct.done{n W w r:Nat}[?gV][?hW][?a6r](h:?atw n G M):?auV W R:=by apply#[?Kc,?qC,K.ge,K.lt,?qm,?z9,?akb];{rw[←(?aIg).1]at h3;show h.st.st.zero j c h2 h3};{let ?js:=?aIg;rw[←a];show b};let ?js:=?xC j h1 h3;rw[←a,←b];show ?aar k j h2 h3
abbrev lN(V Z:Mat)(k:Nat):Mat:=λr l=>if r<k then Z r l else ?zX
def tW[?apU]{k:Nat}(hk:k<i):?PF=?dd*?azy ?F:=by (let e0:?PF=?D i (?b6R ?a7y (Z j c)):=Em (?asd (by cases z:r=k;{subst z;rw[Bp];exact ?b4S r _;rw[?z];show ?kN};rw[B4 z])));ext apx;{congr 1;apply Em ?l6;cases z:r=k;{subst z;rw[Bp];exact ?b26 ?oc ?nA;rw[?bD]};rw[B4 z];exact ?b4S k (if r<?F then ?oc else ?nA);cases y:r<k;{rw[?Je,?bD]};rw[?Fe,?z]};ext apQ;exact(if j<k then Z j c else V j c)=_;rw[?A (?de hj hne)]
def iB[?apU]:?b7y V ?PF| 0,_=>?b8z (1*?azy 0) ?oc ?nA| ?F,hk=>by rw[iB h k ?g,tW h ?WP];ext aqu
def GK{w r:Nat}{U V:Mat}(hw:?jo)(hU:∀k c,k<r->c<k->?Dx=0)(hV:∀l,l<r->In w r U (V l))(h0:∀l i,l<r->i<r->l<i->V l i=0):?b5i U j r∣ ?aUM:=by (let ch:∀l,∃x:?J,l<r->?ata (V l c=?j ?a3i r):=λl=>by cases hl:l<r;{let ?cM:=hV l hl;show ?aU4};show(?azz hl));obtain⟨X,hX⟩:∃X:?cK,∀l,l<r->?b80 (V l c) l ?Dx:=?azt ch;let e1:?D r (tr V)=?aUM:=bI (A:=tr V) λi l hi hl=>h0 l i (qd8 hl hi) hi hl;let e2:=iB (i:=r) (T:=tr U) (V:=tr V) (Z:=tr X) (λi l hi hl=>?_) r ?l;{rw[e1]at e2;show#[_,e2]};exact V l i=_;rw[hX l hl i ?g];(let:?b9Z ?BQ (?ajo=?asU (tr U i j*tr X j l) ?k):=by intro m;induction m with| zero=>intro _;show ?a32| succ m ih =>intro hm;exact ?ajo+X l ?vF*U ?vF i=_;rw[?ce,hU ?vF i ?g ?g];ext d);let:=?P ?BQ ?l;rw[?ass (?k+?BQ=r) qe8 (qx2 hi)]at this;show this
def CD[?aD]{n:Nat}(h:?ZU):∀m,?jI->?gi<=?m0:=λm hm=>by (let:∀d,?qI<=n->?gi<=?KW:=by intro d;induction d with| zero=>intro _;show zb1 _| succ d ih =>intro hd;apply qp2 ?ce ?_;exact ?KW<=?KW*f ?qI;let p:=Dx (n:=?qI) ?iZ;let q:=h ?qI ?g;let:=qq1 (?asC (1<=f ?qI)) (?avc (0<=?KW) ?Gf);rw[qp9]at this;show this);let:=?P (n-m) (qk4 ?aAr);rw[?avc (m+(n-m)=n) ?aAr]at this;show this
def xJ{w r:Nat}{T:Mat}{E:Nat}(hp:?aD3)(h:?b2M r ?akE)(hE:?a4t):?aLp:=λi hi s hs=>by let t:=At4 (i:=i) (T:=?Xn) (λa c ha hac=>by exact ?afk=0;cases z:?a1;{rw[?b1];show h a c (qb0 ha hi) z hac};ext hi) s;let e:?VN=?D i (?axV (?Xn)):=Em λa c ha hc=>(?A ?aKW).symm;rw[e];apply ?m t ?_;cases z:i<=w;{(let e2:?aRX=?ajr:=by (let:∀m,?vb->?a9v=?azx ?oL:=by intro m;induction m with| zero=>intro _;rfl| succ m ih =>intro hm;exact _*_=_*_;rw[?ce];exact ?ayP _;rw[?A ?wS]);show ?P i z);rw[e2];let a:=CD (n:=r) (f:=?oL) hp i hi;let b:=Dx (n:=i) (f:=?oL) (?az2 ?ajg);ext d};(let e2:?aRX=0:=by (let:∀m,w<m->?a9v=0:=by intro m;induction m with| zero=>intro _;(ext d)| succ m ih =>intro hm;exact ?ayP 0;cases y:w<m;{rw[ih y];simp};ext hZ;simp);show ?P i (ql0 z));rw[e2];show ?a5
structure Gp(n w r:Nat)(E:Nat)(e:Int)(T:Mat):Prop where
 sq:?E3
 low:?auj ?akE
 pos:?aD3
 dvd:?FF
 prod:?a4t
 le:?auj (?a1->?ajE)
 red:∀k j,k<j->j<r->0<=T j k/\T j k<?v3
def MB[?AO]{T:Mat}{u:?Y}(he:0<e)(sq:?E3)(hst:En n r ?l9 u)(hu:?aKe)(hd:?FF)(hE:?a4t):?yx:=by apply#[sq,λi c hi hc hic=>?_,?bf,hd,hE,?avP (TF he ?QY hst hu hd hc hi),λk j hk hj=>by let:=hst.red k j hk hj;rw[?ayF hu]at this;show this];{cases z:c<r;{show ?oe c i z (by rw[hu c z];show hic)};show sq.col0 i c hi ?g hc};let:=?HL;rw[?ayF hu]at this;show this
def Fs.going[?AO][?a6h](he:0<e)[?u9]:Gp w n r E e ?anh:=by
 let#[sq,t,hst,ht,hd]:=s.square he h.sq;let pos:?atz (0<T' j j):=?atH (by let:=?HL;rw[ht j hj]at this;show this)
 apply MB he ?QY hst ht hd ?_;let rn:=h.sq.rn;let rw':=h.sq.rw;let d:=GK (w:=w) (r:=r) (U:=T') (V:=T) rw' (?aw4 ?oe ht) (?b0W ((s.bwd l ?g).sub rn sq.row0)) (λl i hl hi hli=>?fc l i (qb0 hl rn) ?g hli);let p:=Dx (n:=r) (f:=?oL) ?bn;show qp2 (qr2 p d) ?V4
def v9.going[?AO][?a6g](he:0<e)[?u9]:Gp n w r E e Qt:=by let ?a09:=s;show s2.going he (s1.going he h)
def v9.first[?B3]{E:Nat}{T T' Qt:Mat}[?S][?ap9](hE:?qp<=E):Gp n w r E ?qp Qt:=by let#[hw,sq,u,hu,hu2,hd]:=v9.square (T:=T) hr hst hz s2;ext apk;apply MB he sq hu hu2 hd ?_;let d:=GK (w:=n) (r:=r) (U:=?yY) (V:=λl i=>T' i ?am) hr (?aw4 hu.zero hu2) (?b0W ((?DE ?am (?tf l hl)).sub hw sq.flip.row0)) (λl i hl hi hli=>?ac5 hi hli);show qp2 (qr2 he d) hE
def Gp.dets[?AO]{T:Mat}[?u9]:?aLp:=xJ ?bn (λi c hi=>?fc i c (by let:=h.sq.rn;ext d)) ?V4
abbrev VB(n w r L m:Nat)(T:Mat):Prop:=?yt\/(∃k,k<=r/\?wq/\?aDh<=m)\/(∃k,k<r/\?aNF/\?BW*?w1+(?dd).natAbs.log2+1<=m)
def Gp.straight[?AO]{T:Mat}[?u9](c:?b3R r T):?yt:=?az3 (by cases z:i<r;{show c.2.2.2.1 i j z hj ?Uc};show h.sq.row0 i j ?g hi hj)
def log2_lt{a b:Nat}(ha:0<a)(h:a∣b)(hlt:a<b):a.log2<b.log2:=by let ?a0k:=h;(let k2:2<=k:=by rcases k with _ | _ | k;{ext d};{ext d};ext d);(let b2:2*a<=b:=by rw[hk,?aal 2 a];show ?azj k2);let e:?anR=a.log2+1:=Nat.log2_two_mul ?g;(let m:?anR<=b.log2:=by rw[Nat.le_log2 ?g];show ?m ?abj b2);ext d
def VB.start{n w r L:Nat}{E:Nat}{e:Int}{T:Mat}[?u9]:VB n w r L ?aLi T:=?y (?x #[0,?a5,?aCS,by rw[zc7];ext eq])
private def Gp.next{n w r L m:Nat}{E:Nat}{e:Int}{T Qt:Mat}(he:0<e)(hL:?akt)[?u9](s:?aeG)(f:?aFn)(ns:¬?yt):0<m/\VB n w r L ?uZ Qt:=by let g:=s.going he h;rcases f with f|⟨k,hk,c,hm⟩|⟨k,hk,c,hm⟩;{show ?X f ns};{(let kr:k<r:=by apply qq3 hk λz=>ns ?_;subst z;show h.straight c);(let e1:?aDh=?BW*?w1+?w1:=by rw[?asC (r-k=?BW+1),qh6,qh3,Nat.add_sub_cancel]);apply ?ah0;let#[c2,q]:=s.next c;rcases q with q | q;{show ?CD};apply ?awn #[k,kr,q,?_];let d:=h.dvd k kr;let d2:=g.dvd k kr;let p:=g.pos k kr;(let l:(?w3).natAbs.log2<=L:=by apply ?m ?_ hL;rw[Nat.le_log2 ?g];apply ?m ?abj ?_;let:=qr2 he d2;show ?aLW p ?P);show qv0 (?ayg (qg7 (qm4 l 2) _) (qk4 e1.symm) hm)};apply ?ah0;rcases s.less c with q|⟨q1,q2,q3⟩;{apply ?y (?x #[?F,?g,q,?_]);rw[?asC (r-?F=?BW)];ext d};apply ?awn #[k,hk,q1,?_];let p:=?aKi;let p0:=?aWz;let:=log2_lt (a:=(?w3).natAbs) (b:=?Qp) ?Vg (qz9.mpr q2) ?g;show qv0 (?m (qm4 ?JE 1) hm)
universe Lat
namespace Lat
structure EuA[?a6T]:Prop where
 e1:r1=x1*A+y1*B
 e2:r2=x2*A+y2*B
 dt:?w6=1\/?w6=-1
 dv:∀d:Int,d∣r1->d∣r2->d∣A/\d∣B
structure EuR[?a6T]:Prop where
 a:?Rc
 rr:0<=?Bz
 r0:?ZT
 xx:?PT<=0
 yy:?TA<=0
 lx:?ab7
 ly:?aBT
def QA{u v:Int}(h:0<=u*v):(u+v).natAbs=u.natAbs+v.natAbs:=by rcases ?adt u 0 with z | z | z;{(let:v<=0:=?av3 ?abd z y);ext d};{subst z;ext d};(let:0<=v:=?av3 ?acF z y);ext d
def EuR.next_le[?AK][?as7]:?aGR:=by (let r1p:1<=r1.natAbs:=by let:=h.r0;ext d);(let hA:A.natAbs=(y2*r1+?Eg).natAbs:=by (let e:?w6*A=y2*r1+?Eg:=?aiG);rcases h.a.dt with d | d;{rw[d,qe2]at e;rw[e]};rw[d]at e;(let:A.natAbs=(-1*A).natAbs:=by rw[qq6,qe2,qd2]);rw[this,e]);(let hB:B.natAbs=(?Wr).natAbs:=by (let e:?w6*B=-?Wr:=?aiG);rcases h.a.dt with d | d;{rw[d,qe2]at e;rw[e,qd2]};rw[d]at e;let:B=?Wr:=?g;rw[this]);(let k1:0<=(y2*r1)*?Eg:=?awh ((y2*r1)*?Eg) ?TA (by let:=h.yy;ext d));(let k2:0<=(x2*r1)*?VR:=?awh ((x2*r1)*?VR) ?PT (by let:=h.xx;ext d));rw[QA k1,qb7]at hA;rw[QA k2,qb7]at hB;let a1:x2.natAbs*1<=x2.natAbs*r1.natAbs:=?aXW;let a2:y2.natAbs*1<=y2.natAbs*r1.natAbs:=?aXW;ext d
def EuA.step[?AK](h:?Rc)(q:Int):EuA A B r2 x2 y2 ?ahT ?TG ?Py:=by apply#[h.e2,?bv,λd h1 h2=>h.dv d ?_ h1];{rw[h.e1,h.e2];grind};{(let:x2*?Py-?TG*y2=-?w6:=?b9);rw[this];rcases h.dt with z | z<;>rw[z]<;>ext d};let:=?ajK h2 (qx7 (a:=d) (b:=q) h1);let e:?ahT+q*r2=r1:=?g;rw[e]at this;show this
def GQ{r1 r2:Int}(h:0<=?Bz)(h2:?a3W):0<=?mu/\?Xr/\0<=r2*?wo:=by (let e:?wo=?aLj:=?axf r1 r2);rw[e];rcases ?aeW h2 with z | z;{(let r1n:r1<=0:=?av3 ?acF y z);(let q:?mu=(-r1).fdiv ?sQ:=by rw[Int.neg_fdiv_neg]);(let m:?aLj=-?UQ:=?aXd);let m0:=qz0 (a:=-r1) (b:=?sQ) ?g;let m1:=zb7 (-r1) (b:=?sQ) ?g;apply#[?_,?ayO r2,?_];{rw[q,qh4 _ ?g];show ?aLV ?g ?g};rw[m];(let:r2*-?UQ=?sQ*?UQ:=by rw[Int.mul_neg,qq6]);rw[this];show qn5 ?g m0};(let r1p:0<=r1:=?av3 ?abd y z);let m0:=qz0 (a:=r1) (b:=r2) z;let m1:=zb7 r1 z;apply#[?_,?WL,qn5 ?JM m0];rw[qh4 _ ?JM];show ?aLV r1p ?JM
def EuR.step[?AK][?as7](h2:?a3W):?axr EuR:=by let ?Ud:=GQ h.rr h2;let#[l1,l2]:=h.next_le;generalize ?mu=q at *;apply#[#[h.a.step q,q2,h2,?bv,l1,l2],q1];{(let:x2*?TG=?PT-q*(x2*x2):=?b9);rw[this];let a:=h.xx;let b:0<=q*(x2*x2):=qn5 q0 (by rw[←?aAn (a:=x2)];show ?Et);ext d};(let:y2*?Py=?TA-q*(y2*y2):=?b9);rw[this];let a:=h.yy;let b:0<=q*(y2*y2):=qn5 q0 (by rw[←?aAn (a:=y2)];show ?Et);ext d
abbrev EuI[?a6T]:Prop :=?aTR\/(B<0/\r1=A/\x1=1/\y1=0/\r2=B/\x2=0/\y2=1) ∨ (B<0/\r1=B/\x1=0/\y1=1/\r2=?IW/\x2=1/\y2=-?f0)
def EuI.start{A B:Int}[?a71]:EuI A B A 1 0 B 0 1:=by rcases ?aeW hB with z | z;{show ?y (?x #[z,?V,?V,?V])};apply ?x #[?aAm,qn5 ?g ?JM,?es,?es,?g]
def Ul{A B:Int}(hA:0<A)(hB:B<0):?f0<=-1/\-A<=?f0/\?IW<=0/\?ath ?IW B.natAbs:=by (let e:?IW=A.fmod B:=?axf A B);(let m:A.fmod B=-((-A).fmod (-B)):=?aXd);let m0:=qz0 (a:=-A) (b:=-B) ?g;let m1:=zb7 (-A) (b:=-B) ?g;let k:?f0*B=A-A.fmod B:=?g;rw[e];(let q1:?f0<=-1:=by ext pV;let:=qn5 (?asC (0<=?f0)) ?aM5;rw[Int.mul_neg]at this;ext d);apply#[q1,?_,?g,?ayO B];ext pV;let h:=?aLc ?ae2 (?asC (1<=-B)) ?g ?g;(let h2:-?f0*-B=?f0*B:=by rw[Int.neg_mul_neg]);rw[h2]at h;let h3:=?aLc ?ae2 (zb1 (-B)) ?g ?g;rw[h2,qu1]at h3;let h4:A*1<=A*-B:=qq1 ?g ?g;ext d
def EuI.step[?AK](hA:0<A)[?as6](h2:?a3W) : ?axr EuI:=by ext apJ;{show#[?x (?akD).1,(?akD).2]};{subst e1 e2 e3 e4 e5 e6;let ?OU:=?Ym;show#[?awn #[hB,?V,?V,?es],q]};let ?Z3:=?Ym;ext aoq;let e7:=?aHe;rw[←e4]at e7 q3 q4;(let rr:0<=B*r2:=by let:=qn5 ?aM5 (?asC (0<=?sQ));rw[Int.neg_mul_neg]at this;show this);let#[p0,p1,p2]:=GQ rr h2;(let p3:1<=?R2:=by ext pV;let:?R2=0:=?g;rw[this]at p1;ext d);ext aos;rw[f1,f2]at e7;let e8:=e7.step ?R2;subst e1 e2 e3;apply#[?x #[e8,p2,h2,?bv,?es],p1];{subst e5;ext d};generalize ?mu=p at *;(let g1:y2*(1-p*y2)=-(?aeP*y2):=?b9);rw[g1];let g2:1*y2<=p*y2:=qn0 p3 ?g;let:=qn5 (?asC (0<=?aeP)) (?asC (0<=y2));ext d
def EuI.all[?AK][?a71][?as6] : ?Rc/\?ZT/\?ab7/\?aBT/\?aGR:=by ext aoq;ext apJ;{show#[h.a,h.r0,h.lx,h.ly,h.next_le.1,h.next_le.2]};{subst e1 e2 e3 e4 e5 e6;show#[e0,?es,?es,?g]};let ?Z3:=?Ym;let e7:=?aHe;ext aos;rw[f1,f2,←e4]at e7;subst e1 e2 e3;show#[e7,?es,?es,?g]
structure Shares(A B g a b:Int):Prop where
 pos:0<g
 e:g=a*A+b*B
 dA:g∣A
 dB:g∣B
 la:?b0c B.natAbs
 lb:?b10 b.natAbs
def EuI.last{A B r1 x1 y1 x2 y2:Int}[?a71](h:?avM EuI 0) : (0<r1->?GM A B r1 x1 y1)/\(r1<0->?GM A B (-r1) (-x1) (-y1))/\?ZT:=by have#[k,r0,a1,a2,_,_]:=h.all hA hB;have#[d1,d2]:=k.dv r1 (Int.dvd_refl _) (Int.dvd_zero _);apply#[λp=>#[p,k.e1,d1,d2,a1,a2],λp=>#[?g,?_,?ade d1,?ade d2,by rw[qd2];show a1,by rw[qd2];show a2],r0];rw[k.e1,qq6,qq6];ext d
def Shares.blend{A B g a b:Int}{π:Nat}(hA:0<A)(h:?aQv)(lA:?b33 A.natAbs)(lB:?b33 B.natAbs):SN π A B a b ?Pl ?qZ:=by let ?Tt:=h.dA;let#[q,eB]:=h.dB;ext ap3;(let k2:B / g=q:=?aB5);(let gn:1<=g.natAbs:=by let:=h.pos;show ?rI ?P);(let n1:?b10 p.natAbs:=by rw[eA,qb7];show ?aR5);(let n2:q.natAbs<=B.natAbs:=by rw[eB,qb7];show ?aR5);rw[k1,k2];apply#[?_,by let:=h.pos;let:=h.e;ext d,?_,?m h.la lB,?m h.lb lA,?b3L n2 lB,?m n1 lA];{let e:=h.e;(let:g*(a*p-b*-q)=g*1:=by rw[qp9];apply ?tI ?_ ?lL;rw[eA,eB];grind);show Int.eq_of_mul_eq_mul_left g0 ?P};rw[eA,eB];grind
universe Lat
namespace Lat
open Hb
abbrev Wz(n:Nat)(C:?eD)(δ b:Nat)(R:Mat):Prop:=?b64 n (C c->?tc*?qk<?aT)
def Vm{x y a k:Int}{δ b c:Nat}(hx:?aRc<?aT)(hy:?am3<?aT)(ha:?b0c ?bS)(hk:k.natAbs<=?bS):?ahQ*?qk<2 ^ ?v0:=by let e:=?aDe;rw[qb7,qb7]at e;let e2:=qc7 ?qk e;rw[qh6,Nat.mul_assoc,Nat.mul_assoc]at e2;let p:0<?bS:=qq4 c;let u:a.natAbs*?aRc<?bS*?aT:=?b7G ha (qw2 hx p);let v:k.natAbs*?am3<?bS*?aT:=?b7G hk (qw2 hy p);rw[?a3e,qj2,qf2];show ?BD e2 u v
def Wz.mono{n δ b b':Nat}[?a5v](hb:b<=b'):?b1W b' R:=?aFC
def Wz.add{n δ b c p q:Nat}[?a5v][?a63]:?b1W ?v0 ?kw:=λr x hr hx=>by cases e:r=p;{subst e;rw[C4];show Vm ?alP ?aIt ?ajZ (qe7 hk)};rw[Ec e];show(h.mono ?g) r x hr hx
def Wz.blend{n δ b e p q:Nat}[?a5v][?em][?apB]:?b1W ?aDi ?aO3:=?asd (by cases e1:r=p;{subst e1;rw[?iJ];show Vm ?kN ?aRR (qe7 hx) (qe7 hy)};cases e2:r=q;{subst e2;rw[K9];show Vm ?aiO ?kN (qe7 hz) (qe7 hu)};rw[?abl];show ?b6v (h.mono ?g))
variable[?iw]
abbrev BB[?j7](C:?eD)(δ β:Nat)[?mc]:Prop:=?b8 n W β s.1/\?b8 n n β s.2/\Wz n C δ β s.1
def BB.mono{n W β β':Nat}[?gZ][?M9](hb:β<=β'):?asM β' s:=#[h.1.mono hb,h.2.1.mono hb,h.2.2.mono hb]
abbrev addS(p q:Nat)(k:Int)[?mc]:?cJ:=(?an s.1 p q k,?an s.2 q p (-k))
abbrev blendS(p q:Nat)(x y z u:Int)[?mc]:?cJ:=(?bw s.1 p q x y z u,?bw s.2 p q u (-z) (-y) x)
def BB.add{n W β c p q:Nat}[?gZ][?M9][?kh][?a63]:?asM ?aE9 (?lI p q k s) :=#[(h.1.add hp hq hk).mono ?g,(h.2.1.add hq hp (k:=-k) (by rw[qd2];show hk)).mono ?g,(h.2.2.add hq hk).mono ?g]
def BB.blend{n W β c p q:Nat}[?gZ][?M9][?em]{x y z u:Int}(hx:?aX7)(hy:y.natAbs<?bS)(hz:z.natAbs<?bS)(hu:u.natAbs<?bS):?asM ?aE9 (blendS p q x y z u s) :=#[(h.1.blend hp hq ne hx hy hz hu).mono ?g,(h.2.1.blend hp hq ne (x:=u) (y:=-z) (z:=-y) (u:=x) hu (by rw[qd2];show hz) (by rw[qd2];show hy) hx).mono ?g,(h.2.2.blend hp hq ne hx hy hz hu).mono ?g]
abbrev shrS[?aj](p f:Nat)[?mc]:?aLe| 0=>s| ?bg=>?lI p ?g0 (-((?a4c).1 p ?vx / (?a4c).1 ?g0 ?vx)) ?a4c
def QE[?Mh][?ge][?S]{p f m μ β c:Nat}(P:?Dy)[?aq7][?arJ](hc:?b8I m<?bS)(b:?aMh) : ∀d,?g0<=m->?att ?g0 ?qg ((?Gz).2)/\?asM (β+d*?bx) ?Gz/\∀l c,l≠p->?qg l c=?sA:=by intro d;induction d with| zero=>intro _;show#[?aSE h,b.mono ?g,?sb]| succ d ih =>intro hd;let#[i1,i2,i3]:=?ce;let ?rl:=i1.step P ?g (?asC (?g0<m)) hp hm hn hpf;let e:?aLk=R ?g0 ?vx:=i3 _ _ ?g;(let qb:(-(?qg p ?vx / ?aLk)).natAbs<?bS:=by rw[qd2,e];apply qc1 q1 (qc1 ?_ hc);show ?aK7);apply#[?_,(i2.add ?g ?g qb).mono ?GO,λl c hl=>?_];{exact VJ n W w lo R B t p f m (?g0+1) μ (?an ?qg p ?g0 _) (?an (?Gz).2 ?g0 p _);rw[e,qs7];show q2};exact ?an ?qg p ?g0 _ l c=_;rw[Ec hl];show i3 l c hl
def wA[?dN][?ge][?S][?a74][?a6n][?a5Z][?a5m][?a6b] : ∀d,?yV->FE n W w i G R B t b p ?o μ ?jf ?Vi (?Cj).2:=by intro d;induction d with| zero=>intro _;show FE.start h| succ d ih =>ext a65;let ?rl:=i1.step P hG ?g (?asC (?jf<i)) hn hp;let e:?Vi ?jf ?ag2=R ?jf ?ag2:=i1.s.same _ _ ?g;exact FE n W w i G R B t b p ?o μ (?jf+1) (?an ?Vi p ?jf _) (?an (?Cj).2 ?jf p _);rw[e,qs7];show q2
def W5[?dN][?ge][?S]{b p spot μ β c:Nat}[?a6n](inc:?Q7)[?a5Z][?a5m][?mi][?a6b](hc:?a1A<?bS)[?pS] : ?b0H ((?a8p).1) ((?a8p).2)/\∀d,?yV->?asM (β+i*?bx) ?Cj:=by let r:=wA (W:=W) (w:=w) (B:=B) (b:=b) P h hG hn hp ?ee ?g;rw[?ass (?aP+?ee=i) qe8 (qx2 hs)]at r;apply#[r.done inc,?x4];let:=(QE (W:=W) (w:=w) (lo:=?k) (B:=B) P ?aMq ?g ?g ?g ?g (c:=c) (qc1 ?aK7 hc) bb d hd).2.1;apply this.mono ?_;let:=qc7 ?bx (?asC (d<=i));show ?JE
universe Lat
namespace Lat
open Hb
variable[?iw]
meta abbrev cS(π i:Nat):Nat:=i+?oU+2
meta abbrev cM(π i:Nat):Nat:=?ig+2*(i*(?m8+1))
def fZ{x π:Nat}(h:?TF):x<?q3:=by let:?b33 1:=qo4;rw[qj2];ext d
def YN{π i μ:Nat}(h:μ<=?fR):?a1A<2 ^ ?m8:=by (let e:2 ^ ?m8=2*?aTp:=by rw[show ?m8=1+(i+?Vo) by unfold cS;ext d,qf2,qf2,Nat.pow_one]);rw[e];let a:=qg1 ?nR h;(let b:1<=?aTp:=by rw[←qf2];show qo4);ext d
variable[?dN][?mb][?S]{π b spot β:Nat}
def Ew.partOf[?mN]{R1:Mat}(e:?ayx (r<i->?Vy=?gF)) : ?hR R1 t ?aP i/\?Q7/\∀r c,?rP->r<i->G c->?asX ?Vy ?aT:=by let k:?ayx (r<i->?Vy=?Nv):=λr c h1 h2=>(e r c h1 h2).trans (?gs r c ?g h2);apply#[(H.part.sub ?a5).congr λj c h1 h2=>k j c ?i1 h2,?av5 (?pD ?o l ?a5 h1 h2),λr c h1 h2 hc=>?_];rw[k r c h1 h2];show ?awC H.rw r h2
def Ew.meetAdd[?mN][?mi][?Lh]{q:Int}[?arg][?pS] : ?asj ?aP ((?ahr).1) ((?ahr).2) ∧ ?asM ?wX ?qv/\?b3p i ?qv:=by let hn:=H.hi;(let hq:?a1o:=by let a:=h.pv ?o ?l hs;let p:=?bn ?o hs;rw[he,qb7]at a;show ?m ?Z2 a);let b1:?asM ?x3 ?qv:=bb.add hn ?aXD (c:=?fK) (by rw[qd2];show fZ hq);let ?aRw:=?avy ?a7s ?aYy;let#[S,bs]:=W5 (n:=n) (W:=W) (w:=w) (G:=G) (B:=(?qv).2) (p:=i) (μ:=?q3) (β:=?x3) (c:=?m8) P inc (h.addPre H hs hq) hG hs hn ?m4 (YN ?dK) b1;apply#[h.metAdd H hs hq hz he ?_,?aaV,?ava bs];(let e:(?qv).2=?aDr:=by exact ?an B ?o i (- -q)=_;rw[qs7]);rw[←e];show S
def Ew.meetBlend[?mN][?mi][?Lh][?a5a][?pS] : ?asj ?aP ((?ab0).1) ((?ab0).2) ∧ ?asM ?wX ?rg/\(?b3p ?o ?rg) ∧ ?b3p i ?a11:=by let hn:=H.hi;ext a6I;let b1:?asM ?x3 ?rg:=bb.blend ?aXD hn ne (c:=?fK) (fZ e.lx) (fZ e.ly) (fZ e.lz) (fZ e.lu);have ?aPM:=h.blendPre H hs e;have ?aRw:=?avy ?Zg ?a8T;have#[S1,bs1]:=W5 (n:=n) (W:=W) (w:=w) (G:=G) (B:=(?rg).2) (p:=spot) (μ:=?fR) (β:=?x3) (c:=?m8) P inc p1 hG hs hn (?x ?l) ?ah1 b1;let b2:=bs1 ?ee ?g;generalize hs2:?a11=s2 at *;let Ca5:?b4Q ?o (?Zg,(?rg).2)=s2:=hs2;rw[Ca5]at S1 b2;ext ha;(let#[P2,B86,hG2]:=?avy ?sz (by rw[?vC r c ?g,Fd ?g ?g]));(let p3:∀l,?ld->l<i->?asw ?sz ?am (?fR*(?sz l ?am).natAbs):=?av5 (by rw[?vC i _ ?hw,?aKk];show p2 l h1 h2));let#[S2,bs2]:=W5 (n:=n) (W:=W) (w:=w) (G:=G) (R:=?sz) (B:=s2.2) (p:=i) (μ:=?fR) (β:=?x3+i*(?m8+1)) (c:=?m8) P2 B86 p3 hG2 hs hn ?m4 ?ah1 b2;ext hn;show#[h.metBlend H hs e hz S1 S2,?aaV,?ava bs1,?ava bs2]
universe Lat
namespace Lat
open Hb
variable[?iw]
abbrev downS[?aj](i:Nat)[?mc]:?aLe| 0=>s| ?bg=>?b6E t (?iN t i s d) d
private def DL[?dN][?mb][?S]{Y β:Nat}(I:Ins n W w i G R0 B0 t Y R B)[?hr][?pS] : ∀d,?rz->?aRr/\?aHK ∧ (d<=i->?b9Z d ?aRA):=by intro d;(let nxt:∀d,d<=i->?aRr->?aHK → ?b9Z d (VJ n W w ?k (?km).1 (?km).2 t ?cg ?cn ?k (?cn+m) ?HJ (?Uh).1 (?Uh).2/\?aRA):=by intro d hd D b m hm;generalize hs:?km=s at *;let#[R1,B1]:=s;let P:=D.part;rw[?asC (?xe=?cn)]at P D;(let rel:∀l,?cn<=l->l<?k->?asX ?aSm (?HJ*(?aXb).natAbs):=?av5 (by let o:?aSm=R ?cg ?am:=D.old ?cg ?am ?g;let p:0<?aXb:=?anf l h2;rw[o];apply ?m (I.gc ?cg ?am ?g (I.pg l ?ZQ)) ?Z2));let run:=QE (n:=n) (W:=W) (w:=w) (lo:=?k) (R:=R1) (B:=B1) (p:=?cg) (f:=?cn) (m:=?k) (μ:=?HJ) (c:=?k+Y+1) (β:=?aip) P rel (qk1 ?lk) ?l hi (?x ?g) (by rw[←qf2];ext LU) b m ?g;apply#[run.1,run.2.1.mono ?_];rw[qh6 d 1,qh3];let:=qc7 ?QG (?asC (m<=?k));let e:m*(?k+Y+1+1)=m*?QG:=rfl;ext d);induction d with| zero =>intro _;let D0:?avt (?k-0) ?XV ?XV:=Ss.start I.s0;let b0:?asM (β+0*?UC) ?XV:=?Kf ?g;show#[D0,b0,λhd m hm=>(nxt 0 hd D0 b0 m hm).2]| succ d ih =>intro hd;let#[D,b,_]:=?ce;let#[S,b2]:=nxt d ?g D b d ?l;(let D2:?avt ?aN4 ?aG8 ?aG8:=by rw[?asC (?aN4=?cg)];rw[?ass (?xe=?cn) qs8 (Nat.le_of_succ_le_succ hd)]at D;rw[?asC (?cn+d=?k)]at S;show D.next ?g S);show#[D2,b2,λh m hm=>(nxt ?bg h D2 b2 m hm).2]
universe Lat
namespace Lat
open Hb
def sumN_cut[?aD]{j:Nat}:∀{i:Nat},?ea->(∀k,?w7->k<i->f k=0)->?j f i=?Dc| 0,h,_=>by rw[?ati j]| ?k,h,hz=>by cases e:j=?k;{rw[e]};exact ?j f i+?aC=_;rw[?ui ?g λk h1 h2=>hz k h1 ?g,?b8U hz i];ext d
def IJ[?aD]{m h:Nat}:∀{j:Nat},(?azc (?Ir<=?b7Z k))->(?Dc).natAbs+m*h<=?b7Z j| 0,_=>by exact ?Pi+m*h<=?b7Z 0;simp| ?a0,hf=>by let a:=IJ (f:=f) (m:=m) (h:=h) (j:=j) λk hk=>hf k ?g;let b:=?b8f hf;let c:=qg9 ?Dc ?bR;exact(?Dc+?bR).natAbs+m*h<=_;rw[qj2];(let e:2 ^ j*2*m*h=?b7Z j+?b7Z j:=?b9);ext d
def aY[?mo]{m:Nat}(h:?asX ?jB m):b.natAbs<=m+a.natAbs:=by let h5:=?aMt (b+a) a;rw[Int.add_sub_cancel,qw6]at h5;show ?m h5 (qm4 h _)
def Ae0{x s m M K:Nat}(h1:x<=m+s)(h2:s+M<=K)(h3:m*1<=M):x<=K:=?g
def yS{i:Nat}[?ge][?S](P:?aZk){a m:Nat}(h:?atr (?aKZ<=m)):?Qd:=by intro j;induction j using Nat.strongRecOn with| _ j ih =>ext aoH;let hs':?aJf<=m:=hs;ext aoB;(let c:?aO6:=by show Ae0 ?aes b (?azj (?rI pj)));rw[qb7]at c;show ?aVh
def E5.backs[?dN][?Me][?S][?pQ](hi:?ec){a m:Nat}(hb:∀k,i<=k->B k a=?aEt)(hM:?b5m ?a2L m)(hM2:?b5m ?He m)(ha:i<=a->a<n->?atr (?a2L=?He)):?Qd:=by apply yS ?XE ?bf;let e:?aAe=?a2L:=h.good.pt a ?aF;(let s:?aAe=?azX ?akN:=by (let:∀d,?mK<=n->?abr=?azX ?ajJ:=by intro d;induction d with| zero=>intro _;ext hZ;exact ?Ja=_;(ext d)| succ d ih =>intro hd;exact ?abr+B ?mK a*R ?mK ?aF=_;rw[?ce,hb ?mK ?g,?Kh ?mK _ ?g];cases z:?mK=a;{subst z;rw[?K,?z,?bD];ext d};ext hi;cases y:?ajJ;{rw[?Je,?bD];ext d};rw[?Fe,?z];ext d);let:=?P (n-i) (qk4 ?aNX);rw[?avc (i+(n-i)=n) ?aNX]at this;show this);cases z:?akN;{rw[?b1,e,ha z.1 z.2 j hj]at s;let:?JG=0:=?g;rw[this];show ?a5};rw[?e9,qe5]at s;rw[←s,e];show ?ayF hM
def VZ[?S][?hp](inc:?ax8 n):?aY4:=by (let:?aNv:=by intro m;induction m with| zero=>ext apa| succ m ih =>ext aqG;{(let hrm:r=m:=?axg inc);show ?ajs};ext aok);show ?aLE
def E5.first{n W w D:Nat}[?gV][?S](hD:Su n G M D)[?a6U] : ∃r,?d3/\?aUp/\?ajp/\Vs n W w r t ?vs R/\?a7Z<=D/\?aIa:=by have#[r,hr,?Q]:=VZ (w:=w) ?yG;let pos:?auq (0<(?vs) k):=?az2 (?ym k hk);apply#[r,hr,?af6,?ahp,#[λj c _ a b=>?IJ j c a b,λj k _ a b=>?yG j k a b,h2,λj _ a=>?rS j a,λj _ _=>rfl,λj _ a=>?ym j a,λk j _ a b=>?Fa k j a b],?_,?bf];{let a:=CD (n:=n) ?H r hr;let b:=?b2J ?l;rw[GL ?XW]at b;let c:=Dx (n:=n) ?H;ext d};let:=h.headD hD ?l hj;let:=?aJu;ext d
variable[?iw]
def addS_zero(p q:Nat)[?mc]:?lI p q (-0) s=s:=by unfold addS;rw[?aaW,?aaW,HR,HR]
def KL[?S]{p f:Nat}[?gZ]:∀m,(?b37 ?nU ?zA p)->?CE=s| 0,_=>rfl| ?ae,h=>by let ih:=KL (t:=t) (p:=p) (f:=f) (s:=s) m (?av2 (h j h1 ?g));exact ?lI p ?zA (-((?CE).1 p ?aV4 / (?CE).1 ?zA ?aV4)) ?CE=s;rw[ih,?b8U h ?zA,addS_zero]
structure A77(i:Nat)[?aj](R:Mat):Prop where
 inc:?atr (?aF<?fz)
 zero:?b99 ?fz (?KE=0)
 pos:?axU ?A6
 red:∀k j,k<j->?al->?a07
abbrev Nl(R:Mat)[?aj](i k:Nat):Int:=R k ?fz / R i ?fz
structure Sb(n i β c:Nat)[?aj][?ci](d:Nat)[?mc]:Prop where
 rows:∀r x,s.1 r x=if ?a0w then ?xh+?afJ else ?xh
 old:∀r x,?Jr->s.2 r x=B r x
 back:∀x,x<n->?asX ?aQe (?qr*?bg)
def Sb.step{n i β c:Nat}[?S][?ge]{d:Nat}[?gZ](L:?ajk)(bb:?aSL)[?a5p](hd:d<?k)(h:?aJg) : ?auG t ?bg (?b6E t s d)/\?aRy:=by (let own:∀x,s.1 ?cg x=R ?cg x:=λx=>by rw[h.rows,?s λq=>?X q.1 (by rw[qs8 ?ak1];show Nat.not_succ_le_self _)]);(let ri:∀x,s.1 i x=?KE:=λx=>by rw[h.rows,?z]);(let hdj:?axU (?BZ=?dl):=?atH (by rw[h.rows];cases z:?xe<=j/\?al;{rw[?b1,L.zero ?aF (L.inc j z.2)];simp};ext hi));(let zq:∀m,m<d->?b37 (?cn<=j) (?cn+m) ?cg:=λm hm j h1 h2=>by rw[own,?b8f hdj];let ?js:=L.red ?cg j ?i1 ?g;show Int.ediv_eq_zero_of_lt a b);let zs:?aRy:=?axA (KL m (zq m hm));apply#[?_,zs];cases d0:d=0;{subst d0;exact ?auG t 1 s;apply#[?RZ,?gs,?ax9 (?m ?a0D (qg1 _ ?g))];rw[h.rows,?z,?z]};let#[e,?h]:=?aFJ d0;let hi':?lq<=i:=?ak1;let wi:?eV<i:=?ago (qb0 ?aIw hi') ?aIw;let w2:?k-?ali=?eV:=Nat.add_sub_add_right i 1 ?lq;(let last:?cS t ?eV ?HR s ?lq=?lI ?eV i (-?Cc) s:=by exact ?lI _ (?HR+e) _ (?cS t ?eV ?HR s e)=_;rw[zs e (qu6 e),show ?HR+e=i from(qp4 _ 1 e).trans ((?cv _ (qo6 1 e)).trans (qo3 hi')),own,hdj i ?l];rfl);rw[last];apply#[?RZ,λr x hr=>?_,?xr];{exact ?an s.1 ?eV i _ r x=_;cases z:r=?eV;{subst z;rw[C4,own,ri,?A #[qk4 w2,wi],qe2]};rw[Ec z,h.rows];cases y:?k-?lq<=r/\r<i;{rw[?Je,?A #[?m (Nat.sub_le_sub_left ?sB _) y.1,y.2]]};rw[?Fe,?s λq=>y #[by rw[qs8 hi'];show qq3 (?m (qk4 w2.symm) q.1) (?hF z),q.2]]};{exact ?an s.2 i ?eV _ r x=_;rw[Ec hr];show ?gs r x hr};exact(?an s.2 i ?eV (- -?Cc) i x).natAbs<=_;rw[C4,qe2,qs7,?gs ?eV x (qf1 wi)];let a:=?a0D;let b:=qg9 ?aQe (?Cc*B ?eV x);rw[qb7]at b;let m:(?Cc).natAbs*(B ?eV x).natAbs<=?bS*?fS:=?b1O (qe7 (hq _ wi)) (bb _ _ (qd8 wi hi) hx);rw[←qf2,?aYS]at m;rw[Nat.mul_add _ ?ali 1,Nat.mul_one];show ?m b (qu2 a m)
def xO{n W i β c:Nat}[?S][?ge](L:?ajk)[?pS][?a5p] : ∀d,?rz->?auG t d ?km:=by intro d;induction d with| zero =>intro _;apply#[?RZ,?sb,?xr];{rw[?z];rfl};exact ?aPh<=_;let a:?aPh<?fS:=?b7c ?I8 x hx;let p:?aPj:=?dK;(ext d)| succ d ih =>intro hd;show((?ce).step L ?I8 hq hi (qb4 hd)).1
def Sb.bits{n W i β c:Nat}[?S][?ge]{d:Nat}[?gZ][?pS][?a5p](hd:?rz)(h:?aJg):?asM ?Hk s:=by apply#[?Qq,?Qq,?Qq];{rw[h.rows];cases z:?a0w;{rw[?b1];let e:=qg9 ?xh ?afJ;rw[qb7,qd2]at e;let a:=?acZ;let b:=bb.1 i x hi hx;let m:(?YY).natAbs*(?KE).natAbs<=?bS*?fS:=?b1O ?aVj b;rw[←qf2,?aYS]at m;let p:?aPj:=?dK;(let q:4*?qr<=2 ^ ?Hk:=by (let e4:4*?qr=?ayl 2 ?pG:=by rw[qf2 2 2 ?pG]);rw[e4];show ?dK);let a':?aUP<?fS:=a;generalize ?qr=y at m p q;generalize 2 ^ ?Hk=z8 at q ⊢;show qc1 e (qb0 (Nat.add_lt_add_of_lt_of_le (qb0 a' p) m) (?m (by rw[←Nat.two_mul];show ?axc ?L) q))};rw[?e9];show ?b1Q ?acZ};{cases z:r=i;{subst z;let a:=?a0D;(let l:?bg<?ayl r 2:=by let:=qs5 (n:=r+2);show qc1 (qm4 hd _) ?P);apply qc1 a ?_;(let e4:?ayl β (c+r+3)=?qr*?ayl r 3:=by rw[←qf2];congr 1;ext d);rw[e4];apply qw2 ?_ qo4;show ?b1Q l};rw[?gs r x z];show ?b1Q (?I8 r x hr hx)};rw[h.rows];cases z:?a0w;{rw[?b1];let:=Vm (a:=1) (k:=-?YY) (c:=c) ?aXq (bb.2.2 i x hi hx) ?ajZ (by rw[qd2];show ?aVj);rw[qe2]at this;show ?b1Q ?P};ext hi;show ?b1Q ?aXq
universe Lat
namespace Lat
open Hb
variable[?iw]
def fdiv_small{x h:Int}{c:Nat}(hh:0<h)(hx:?aX7):?a7n<?bS:=by let:=RG (x:=x) (h:=h) (K:=x.natAbs) hh (ql1 _ (?n1 hh));ext d
def E5.putB{n W w i β:Nat}[?gV][?S][?pQ][?hr][?MB](bb:?awR β R):Me n W w i G R B t β β :=#[hi,?XE,?rS,?atH (qe7 (bb j _ (qd8 hj hi) ?a2i)),?asd (qe7 (bb r c (qd8 hr hi) ?Pp)),?av7 (qe7 (?b7c bb c ?Pp)),?b0W (qe7 (?b7c bb _ (?rS l hl)))]
def Ct.last{n W w r i β c:Nat}[?gV][?hW][?A9](hn:?M)[?MB](hG:G ?eY)[?pS](hc:?b1J ((R k ?eY).natAbs)) : ?avw ?gG ((?agC).1) ((?agC).2) ∧ (∀d,?rz->?auG ?gG d ?EZ/\?asM ?Hk ?EZ) ∧ (∀d,d<?k->?b1I ?gG ?EZ ?EZ):=by let H:=h.st.putB hn hGW bb.1;let#[I,_]:=h.ins K hi H hG;let D:=(DL I hn bb ?k ?l).1;rw[qk3]at D;ext apt;ext a5N;let L:A77 i ?gG R:=#[?atH (I.s0.inc j i hj ?g),?ax9 (I.s0.zero i x ?g hx),?atH (I.s0.pos j ?a4J),λk j h1 h2=>by rw[t1 j h2];show ?aar k j h1 h2];let hq:?b1J ?aSR:=?az2 (?am6 (L.pos i ?l) (by rw[t2];show hc k hk));let run:=xO L bb hq hn;show#[h.nextK K hi hn I D,?ayV #[?UT,(?UT).bits bb hq hn hd],?ayV (((?aDj).step L ?I8 hq hn hd).2)]
abbrev HV(n r i:Nat)(kt:?Y)(c:Nat)(R:Mat):Prop:=∀k j,k<i->i<=j->?aU->?ath ?aej ?bS
def Ct.above{n W w r i β c η:Nat}[?gV][?hW][?gZ][?A9](hn:?M)(hη:?a7i)(a:HV n r i kt c R)(l:?auG ?gG ?k s):?axk ?k (c+η+1):=λk j h1 h2 h3=>by ext a5N;(let mi:(R i ?cH).natAbs<?rA:=by ext a68;let#[m1,m2]:=?wJ i j ?g ?aU1 h3;let:=hη j ?g h3;ext d);let p1:?rA<=?ayl c η:=?dK;let p2:?bS<=?ayl c η:=?dK;rw[l.rows,qj2];cases z:?k-?k<=k/\k<i;{rw[?b1];let e:=qg9 ?aej (-?aVq*R i ?cH);rw[qb7,qd2]at e;(let q:?aSR<=?bS:=by unfold Nl;rw[t2];(let p:0<R i ?eY:=by rw[?aAW,?aAi];show ?z9 i hi hn);show qe7 (?am6 p (a k i z.2 ?l hn)));let m:=?b1O q mi;rw[←qf2]at m;let b:=a k j z.2 ?g h3;ext d};ext hi;let:k=i:=?g;ext er;ext d
universe Lat
namespace Lat
open Hb
abbrev put2[?aI][?dU](x y:Int):?J:=λk=>if k=i then x else if k=j then y else f k
def Xl[?aI][?dU](x y:Int):?azw i=x:=?K
def Xk[?fn][?aI](h:?kA)(x y:Int):?azw j=y:=?b3J ?a1T ?K
def Mj{i j k:Nat}[?aI](h1:k≠i)(h2:k≠j)(x y:Int):?azw k=f k:=?b3J ?f2 ?gp
structure Bt2(o t g r:Int):Prop where
 go:g∣o
 gt:g∣t
 tr:t∣r
 pr:g*r=o*t
 all:∀d:Int,d∣o->d∣t->d∣g
def Shares.pair{A B g a b:Int}(h:?aQv):Bt2 A B g (?qZ*B):=by let ?Tt:=h.dA;ext ap3;apply#[h.dA,h.dB,#[?qZ,?p0],?_,λd h1 h2=>?_];{rw[k1,←qe9,←eA]};rw[h.e];show ?ajK (qx7 h1) (qx7 h2)
abbrev ChainTo(m i:Nat)[?aI]:Prop:=∀a b,a<i->a<b->b<m->f a∣f b
abbrev ChainAt(m i j:Nat)[?aI]:Prop:=?aLv/\∀b,i<b->b<j->?aC∣f b
def ChainAt.step{m i j:Nat}[?aD]{g r:Int}(h:?aYT)[?a73](p:Bt2 ?aC ?bR g r):?ud m i ?a0 (?b7P g r):=by let ne:?kA:=?g;apply#[λa b ha hab hb=>?_,λb hb hbj=>?_];{rw[Mj f (?asC (a≠i)) (?asC (a≠j))];let d1:=h.1 a i ha ha ?yd;let d2:=h.1 a j ha (qd8 ha hij) hj;cases e1:b=i;{rw[e1,Xl];show p.all _ d1 d2};cases e2:b=j;{rw[e2,?oW];show zb8 d2 p.tr};rw[?aLS];show h.1 a b ha hab hb};rw[Xl];cases e2:b=j;{rw[e2,?oW];show zb8 p.gt p.tr};rw[Mj f ?g e2];show zb8 p.go (?b25 e2)
def ChainAt.skip{m i j:Nat}[?aD](h:?aYT)(d:?Ki):?b0m ?a0:=#[h.1,λb hb hbj=>by cases e:b=j;{rw[e];show d};show ?b25 e]
def ChainTo.at{m i:Nat}[?aD](h:?aLv):?b0m ?k:=#[h,λb h1 h2=>?g]
def ChainAt.next{m i:Nat}[?aD](h:?b0m m):ChainTo m ?k f:=λa b ha hab hb=>by cases e:a=i;{rw[e]at hab ⊢;show h.2 b hab hb};show h.1 a b (?de ha e) hab hb
def f9{f f':?J}{i:Nat}:∀{m:Nat},i<m->(∀k,k<m->k≠i->f' k=f k)->?Gg*?aC=?gi*f' i| ?ae,hi,h=>by exact ?Gg*f' m*?aC=?gi*f m*f' i;cases e:i=m;{subst e;(let:?a9 f' i=?b0v i:=by (let:∀l,l<=i->?amB=?b0v l:=by intro l;induction l with| zero=>intro _;rfl| succ l ih=>intro hl;exact ?amB*f' l=?b0v l*f l;rw[?ce,?b8U h l]);show ?P i ?l);rw[this];grind};let ih:=f9 (f:=f) (f':=f') (i:=i) (m:=m) (?de hi e) ?iZ;rw[h m ?g ?rC];(let:?Gg*f m*?aC=?Gg*?aC*f m:=?b9);rw[this,ih];grind
def TN[?aD]{i j m:Nat}[?mq][?a73](h0:?aC≠0)(hj0:?bR≠0)(e:x*y=?aC*?bR):?FS=?gi:=by let ne:?kA:=?g;(let a:=f9 (f:=f) (f':=?Xg) (i:=i) (m:=m) ?yd λk hk hne=>by cases z:k=j;{rw[z,?oW]};show Mj f hne z ..);(let b:=f9 (f:=?Xg) (f':=?aj2) (i:=j) (m:=m) hj λk hk hne=>by cases z:k=i;{rw[z,Xl,Xl]};rw[?agm,?agm]);rw[Xl]at a;rw[?oW,?oW]at b;(let c:?FS*?PG=?gi*?PG:=by (let:?FS*?PG=(?FS*?bR)*?aC:=?b9);rw[this,b];(let:?aT3*y*?aC=(?aT3*?aC)*y:=?b9);rw[this,a];(let:?gi*x*y=?gi*(x*y):=?b9);rw[this,e];grind);show Int.eq_of_mul_eq_mul_right (?al3 hj0 h0) c
structure Bil(β:?aXJ):Prop where
 l:∀u v y a b,β ?wR y=a*β u y+b*β v y
 r:∀x u v a b,β x ?wR=a*β x u+b*β x v
def IE{β:?aXJ}(hb:Bil β){P Q:Mat}[?aD]{i j n w:Nat}(ne:?kA)(hin:?M)(hjn:?aU)(hiw:i<w)(hjw:j<w)(h:?b63 (β ?F5 ?a0K=?aiF))[?arV] : ?b63 (β (?an ?uz j i ?K4 x) (?bw Q i j a b ?F2 ?lM y)=if x=y then ?lE f i j g ?A0 x else 0):=by let ?Tt:=S.dA;let#[q,eB]:=S.dB;(let g0:g≠0:=by let:=S.pos;ext d);(let k1:?lM=p:=?a7d);(let k2:?a3d=q:=?aB5);(let k3:?X3=b*q:=by rw[eB,show b*(g*q)=g*(b*q) by grind];show ?a1N);let e0:=S.e;let ne':j≠i:=?hw;rw[k1,k2,k3];(let pi:?ayk i=?acQ:=by rw[?o0 ne,Qr]);(let pj:?ayk j=λc=>1*P j c+?q6*(?acQ) c:=by rw[Qr,?o0 ne',Qr]);(let po:∀x,x≠i->x≠j->?ayk x=?F5:=λx h1 h2=>by rw[?o0 h2,?o0 h1]);let ii:=h i i hin hiw;let ij:=h i j hin hjw;let ji:=h j i hjn hiw;let jj:=h j j hjn hjw;rw[?K]at ii jj;rw[?gj]at ij;rw[?s ne']at ji;intro x y hx hy;cases y1:y=i;{subst y1;rw[?z3];cases x1:x=y;{subst x1;rw[?K,Xl,pi,hb.l,hb.r,hb.r,ii,ij,ji,jj];grind};rw[?Y6];cases x2:x=j;{subst x2;rw[pj,hb.l,hb.l,hb.r,hb.r,ii,ij,ji,jj];(let:1*(a*0+?xP)+?q6*(1*(a*f y+b*0)+1*(a*0+?xP))=?xP-b*q*(a*f y+?xP):=?b9);rw[this,←e0];(let:?xP=b*(g*q):=by rw[←eB]);rw[this];grind};rw[?W7,hb.r,?uV,h x j hx hjw,?Y6,?QD];simp};cases y2:y=j;{subst y2;rw[blend_row_q];cases x1:x=i;{subst x1;rw[?gj,pi,hb.l,hb.r,hb.r,ii,ij,ji,jj];(let:1*(-q*f x+p*0)+?b0y y=p*f y-q*f x:=?b9);rw[this,eA,eB];grind};cases x2:x=y;{subst x2;rw[?K,?oW,pj,hb.l,hb.l,hb.r,hb.r,ii,ij,ji,jj];(let:?b0y x+?q6*(1*(-q*?aC+p*0)+?b0y x)=p*f x-b*q*?a79:=?b9);rw[this];(let:?a79=0:=by rw[eA,eB];grind);rw[this];ext d};rw[?QD,?W7,hb.r,h x i hx hiw,?uV,?Y6,?QD];simp};rw[?Ic y1 y2];cases x1:x=i;{subst x1;rw[?Zr,pi,hb.l,?uV,h j y hjn hy,?Zr,?V6];simp};cases x2:x=j;{subst x2;rw[?V6,pj,hb.l,hb.l,?uV,h i y hin hy,?V6,?Zr];simp};rw[?W7,?uV];cases e:x=y;{rw[?cF,?cF,Mj f x1 x2]};ext AV
abbrev Sw[?bu](A:Mat)(p q:?J):Int:=?b9I ?afR
def RU[?bu](A:Mat):Bil (Sw n w A):=by apply#[λu v y a b=>?_,λx u v a b=>?_];{unfold Sw;rw[←Bd,←Bd,←De];show ?SQ};unfold Sw;ext AW;apply ?Ty;(let:?ast (A k c*?Ze) w=a*?ast (A k c*u c) w+b*?ast (A k c*v c) w:=by ext AW;show ?aub ?b9);rw[this];grind
def v5[?hp]{A:Mat}{p p' q q':?J}(hp:∀a,a<n->p a=p' a)(hq:∀b,b<w->q b=q' b):?aER=?atN p' q':=by unfold Sw;apply Ag ?wF;rw[hp a ha,Ag λb hb=>by rw[hq b hb]]
def Qp[?bu](A:Mat)(p q:?J):?aER=Sw w n ?wA q p:=by unfold Sw;rw[show ?afR=λa=>?b9l (λb=>p a*?aGY) from ?dA λa=>(Bd ..).symm];rw[Cf];apply ?b7M ?_;ext a5w
def jP[?hp]{A:Mat}{x:?J}{U:Mat}{q:?J}:∀m,?atN ?aas q=?R8| 0=>by exact ?atN ?dh q=0;unfold Sw;show ?aq λa _=>?G| ?ae=>by (let e:?b1C ?a3i ?aas ?Xe:=?aw9 (?b6L (?XO+?Xe) (1*?XO) ?Xe));rw[e,(?aZm).l,jP m];exact 1*?R8+x m*?atN (U m) q=?R8+x m*?atN (U m) q;ext d
abbrev vB[?bu](A Q M:Mat):Prop:=?b65 (M k c=?atN (λa=>M k ?dY) ?os)
def vB.rows{n w W:Nat}{A Q M R:Mat}(h:?akn)(hW:?Pb)(e:∀i,?M->In W n M (R i)):?anm:=λi c hi hc=>by let ?cM:=e i hi;rw[?aWP];let:?atN (λa=>R i ?dY) ?os=Sw n w A (λa=>?asc (x k*(λk a=>M k ?dY) k a) n) ?os:=v5 (?azf (hx ?dY ?g)) ?ib;rw[this,jP];show ?b9b (by rw[?a3g])
def E5.told{n W w:Nat}[?uL]{A Q M B0 R B:Mat}[?S][?a6U](hW:?Pb)(k:?akn):?anm:=k.rows hW (?aEM).1
abbrev beside(w:Nat)(T P:Mat):Mat:=λr c=>if ?a1 then T r c else P r ?GZ
def beside_lo{w:Nat}{T P:Mat}{r c:Nat}(h:?a1):?awS r c=T r c:=?b3
def beside_hi(w:Nat)(T P:Mat)(r a:Nat):?awS r ?dY=P r a:=by unfold beside;rw[?z,qp3]
def S3[?api]:?b2T ?eA:=λk c hk hc=>by rw[?Dr,?a3g];show v5 (λa _=>(?a4U w T P k a).symm) ?ib
def Z6[?api]:∀c k,?a1->k<n->tr T c k=Sw w n ?wA ?os (P k):=λc k hc hk=>by exact ?f6=_;rw[?a3g,Qp]
variable[?iw]
abbrev Hr(π b i:Nat):Nat:=i*?oY+?k*?Zn
abbrev Fu(π b:Nat):?Y| 0=>0| ?k=>?Ix+?J5
abbrev Vq(c η r:Nat):?Y| 0=>0| ?bg=>?aNd+(c+d*?iQ+?zh+3)
universe Lat
namespace Lat
open Hb
variable[?iw]
def Ct.wide[?uD]{G G':?eD}[?Me][?hW][?arf](hG:∀c,G c->G' c):?atw i G' M:=#[#[h.st.good,h.st.st,?atH (hG _ (?VF j hj))],?w5,?xC]
def yT{n W r β:Nat}{kt:?Y}[?gZ](b:?aBr)(hr:?d3)(hC:?asz (C ?cH))(hδ:δ<=β):?axk r ?aa7:=λk j h1 h2 h3=>by
 let:=b.2.2 k ?cH ?g (hC j h2 h3);let e:?fS=2 ^ ?aa7*?qk:=?axv qo3 hδ
 rw[e]at this;show Nat.lt_of_mul_lt_mul_right ?P
abbrev moveS(i s:Nat)(x:?cJ):?cJ:=(?cL x.1 i s,?cL x.2 i s)
abbrev tV(p:Nat)(x:?cJ):?cJ:=(Iu x.1 p,Iu x.2 p)
def A01{n i s r:Nat}[?pZ](hr:r<n):?kH<n:=?U3
def BB.move{n W β i s:Nat}[?a64][?pZ]:?asM β (?J6 i s x) :=#[h.1.move hi hs,h.2.1.move hi hs,?asd (by exact(?cL x.1 i s r c).natAbs*_<_;rw[move_row];show ?s5 _ c (A01 hi hs hr) hc)]
def BB.neg{n W β p:Nat}[?a64]:?asM β (tV p x) :=#[h.1.neg,h.2.1.neg,?asd (by exact(Iu x.1 p r c).natAbs*_<_;unfold Iu;cases e:r=p;{subst e;rw[Bp,qd2];show ?aNq};rw[?nl];show ?aNq)]
abbrev insS(i spot st:Nat)(x:?cJ):?cJ:=if (?Qy).1 ?o st<0 then tV ?o ?Qy else ?Qy
def A26(i spot st:Nat)[?ci]:?Pz=?aCN:=?auA ?aXy ?aXy
def A25(i spot st:Nat)[?ci]:?W9=?agF:=?auA ?agT ?agT
def BB.ins{n W β i spot st:Nat}[?a64][?hr](hs:?hN):?asM β (?b6d x):=by unfold insS;split;{show(?aJV).neg};show ?aJV
def Aa8{n W w i β:Nat}[?uL][?mb][?S]{π b spot st:Nat}[?as4](p:?W4)[?aog](bb:?asM ?a4v ?dt) : ?avS ?Pz ?W9 ∧ Ss n W w i ?Pz ?W9 ?fb 0 (?anT).1 (?anT).2 ∧ ?aK6 ∧ (∀d,?rz->?asM ?vV ?aQA) ∧ (∀d,d<=i->∀m,m<=d->?asM ?vV (?b6E ?fb ?aQA m)):=by let I:=p.ins H hs h0 h1 hW hG hpg hex;rw[←A26,←A25]at I;let b1:?aK6:=(?Kf (by let:=qc7 ?oY hs;show ?JE)).ins ?hA hs;let run:=DL (β:=?XI) I ?hA b1;(let up:∀d,?rz->?XI+d*?Zn<=?vV:=?ayV (by unfold Hr;let:=qc7 ?Zn hd;ext d));apply#[I,?_,b1,?ayV ((?UT).2.1.mono (up d hd)),λd hd m hm=>((?aDj).2.2 hd m hm).mono (up ?bg ?a94)];let D:=(run ?k ?l).1;rw[qk3]at D;show D
universe Lat
namespace Lat
open Hb
variable[?iw]
def AN{w m D:Nat}{T P:Mat}(h:Su m ?mD T D):Su m ?mD ?eA D:=λi hi s hs=>by let e:(?D i λr l=>?awS r ?cP)=?VN:=Em λr c _ hc=>?mt ?aKW;rw[e];show h i hi s hs
def In.cols{w n:Nat}{R R':Mat}{u v:?J}(h:?aPy)(hR:?awa ?oy R')(hu:?aNL):?axj R' v:=by let ?cM:=h;show#[x,?av7 (by rw[←hu c hc,?jp];show ?b9b (by rw[hR k c hk hc]))]
def Fs.cols[?hp]{T T' S S':Mat}(h:?Nh)(e:?awa ?f6 S)(e':?awa ?P9 S'):Fs n w S S':=by let#[r,t,hr,st,hz]:=h.st;apply#[?b4i h.fwd e e',?b4i h.bwd e' e,r,t,hr,#[?zb,?td,?oV,?bf,λk j hk hj=>?_],?b92 (by rw[←e' i c h2 h3];show ?b62 hz i c)];{rw[←e' j c ?g (by let:=?tR;show qd8 hc ?P)];show ?awC ?wP j hj};{rw[←?amj];show ?D5};rw[←e' k _ ?g ?tR,←?amj];show ?y9 k j hk hj
def tZ{n W w r i E π b:Nat}{e:Int}{T P B0 R B:Mat}[?hW][?Af](hW:w<=W)(h:?atw i ?mD ?eA)(hi:i<r)(hE:?b33 E)[?M7](hb:i*E<=?aT)(hπ:?Er):?avu ?mD R B:=by let rn:=g.sq.rn;apply h.st.putD (AN g.dets) ?g ?g (?av7 ?g) (b0:=π) ?h2 hE hb ?l hπ;rw[?Dr];let ?Wi:=?awC g.le i ?g;show ?a7F a1 a2 he
def Rl{n w r E:Nat}{e:Int}[?uL]{A Q T P B0 R B:Mat}[?hW](he:0<e)[?Af][?LP](h:Ct n ?aN w r n G ?eA B0 kt hd t R B)(k:?aL3) : ?aIc/\?aY9/\?aAX/\?b4B R (λa=>R x ?dY) ?os:=by let s:?aIc:=?b2u h.st.rows;show#[s,s.going he g,h.done K,h.st.told ?l (S3 k)]
universe Lat
namespace Lat
open Hb
variable[?iw]
def UN{n W w i D π b b0:Nat}[?Me][?S][?apl][?arc][?hr][?aqo]:?avu ?Uy R B :=h.putD hD ?g hi ?aWQ (?av7 (?b7c hM c hc)) h1 h2 h3 h4
def Xy{n W w i D b b0 β:Nat}[?Me][?S][?apl](hB:∀k a,B0 k a=?aEt)[?arc](hi:?ec)(h2:?a5B)[?ark]:BB n W ?xB 0 β ?dt:=by apply#[?l6,λr a hr ha=>?_,λ_ _ _ z=>z.elim];{(let le:?acy:=by cases z:r<i;{show ?b8b hi ?aWQ z};rw[?Kh r c ?g];show ?m (?awC hM r hr) ?aKQ);show ?b1P le hβ};(let pM:?b99 n (∀c,pT n B0 M x c=M x c):=λx hx c=>by exact ?asc (B0 k x*M k c) n=M x c;rw[?ak (j:=x) hx λk _ hne=>by rw[hB,?Zi];simp,hB,?K,qe2]);cases z:r<i;{let:=h.backs hi (a:=a) (m:=?Ga) (?az2 (by rw[?acj k a hk,hB])) (?atH (by rw[pM a ha];show ?aUv)) (?atH ?aUv) (λ_ _ j _=>pM a ha _) r z;rw[←qf2]at this;show qc1 ?P ?GE};exact(B r a).natAbs<?fS;rw[?acj r a ?g,hB];let:1<?fS:=?aGd ?g;split;{show this};show qd8 ?L ?P
universe Lat
namespace Lat
open Hb
def Ga(w:Nat)(R:Mat):?ag w R (λr a=>R r ?dY)=R:=by funext r c;unfold beside;cases h:?a1;{rw[?b3]};rw[?ad];exact R r (w+?GZ)=?gF;rw[?ass (w+?GZ=c) qe8 ?aMJ]
def Vs.table{n W w r:Nat}[?u1]{T T' P:Mat}(h:?auV W ?eA)(hz:?yJ):?auV W (?ag w T' P):=by (let same:∀k c,w<=c->?ag w T' P k c=?xv:=λk c hc=>by unfold beside;rw[?z,?z]);apply#[?Kc,?fP,h.ge,?p5,?qm,?bn,?akb];{cases z:?a1;{rw[?mt z];show hz j c h1 h2 z};rw[same j c ?g];show ?VB};{rw[same j _ ?Sy];show ?aA1};rw[same k _ (h.ge j h1 h3)];show ?aIT
def Jg{n w w':Nat}{T T' P B:Mat}(h:?aXA):Gu n w' (?ag w' T' P) B:=?b4Z (by let:=?aRz;unfold pD at this ⊢;rw[←this];show ?aub (by rw[beside_hi,beside_hi]))
structure X4(n w r E L m:Nat)(e:Int)(A T P PB Q QB:Mat)(kl kr:?Y)(hl hr:?J):Prop where
 e0:0<e
 going:?yx
 kl:?b27 ?eA
 kr:?aw2 r ?a8t
 told:?aL3
 dl:?ahW
 dr:Gu w n ?a8t QB
 left:?aFn
private def X4.next{n w r E L m:Nat}{e:Int}{A T P PB Q QB R RB S SB:Mat}{kl kr tl ur:?Y}{hl hr:?J}{G G':?eD}(hL:?akt)[?arF] (s1:Ct n ?aN w r n G ?eA PB kl hl tl R RB) (s2:Ct w ?g1 n r w G' ?a7e QB kr hr ur S SB) : ?aPs/\(¬?yt->0<m/\X4 n w r E L ?uZ e A ?D9 ?qB RB ?TW SB kl kr hl hr):=by ext ha;let#[a1,a2,a3,a4]:=Rl h.e0 h.going h.kl s1 ?JN;let kr':?aw2 r ?a7e:=?asg h.kr.table a2.sq.row0;let t2:?awJ (Q x):=?awD (Z6 (T:=R) (P:=?Zc) a4 x c hx hc);let#[b1,b2,b3,b4]:=Rl h.e0 a2 kr' s2 t2;ext hn;let st:?aPs:=#[R,a1,b1];apply#[st,λns=>?_];let#[m0,lf]:=h.going.next h.e0 hL st h.left ns;apply#[m0,h.e0,b2,?bv,?bv,?_,lf];{(let:?b27 ?S4:=by rw[Ga];show a3);show ?asg ?Hd b2.sq.row0};{(let:?aw2 r ?a0J:=by rw[Ga];show b3);show ?asg ?Hd b2.sq.flip.row0};{intro x c hx hc;exact S c x=_;rw[b4 c x hc hx,Qp]};{let d:=s1.st.good.dual h.dl;(let:?aHA:=?adf);show ?Cm};let d:=s2.st.good.dual (Jg h.dr);(let:?a9o:=?adf);show ?Cm
abbrev one:Mat:=λi j=>?lm
def Zc[?bu](T:Mat):?awO (?b8G w T) one:=?b4Z (by unfold pD;rw[show(λc=>?b8w T i ?jM*?BC)=λc=>?axM c ?BC from ?aw9 (by rw[beside_hi];exact(if i=c then ?c7 else 0)*_=_;cases e:i=c;ext apd)];rw[Eo (λc=>?BC) i n,?gQ];exact ?akd=_;cases e:i=j;ext apd)
def VX[?hp](A:Mat):?b4B A ?aUg (one c):=λx c hx hc=>by unfold Sw;rw[?ak (j:=x) hx (?b5n x)];rw[?ak (j:=c) hc (?b5n c)];let e1:one x x=1:=?K;let e2:one c c=1:=?K;rw[e1,e2];simp
def mZ{n w D D' L:Nat}{A R RB S SB:Mat}{t u:?Y}{G G':?eD}(hD:Su n G ?DA D)(hD':Su w G' ?aek D') (s1:E5 n ?aN w n G ?DA one t R RB) (s2:E5 w ?g1 n w G' ?aek one u S SB) : ∃(r:Nat) (e:Int),?d3/\?jo/\e<=D/\X4 n w r D L ?aLi e A ?D9 ?qB RB ?TW SB t u ?vs ?aVQ ∧ ?aIa/\∀j,j<w->S j (u j)<=D':=by have#[r,hr,st,hz,K,pr,hd]:=s1.first hD;have#[r',hr',st',hz',K',_,hd']:=s2.first hD';let e0:0<?a7Z:=Dx (?atH ?D5);let rs2:Fs w n ?zd (tr ?D9):=?b2u s2.rows;let g:=v9.first (T:=A) hr st hz rs2 pr;let rw':=g.sq.rw;(let er:r'=r:=by apply ?azi ?lR;{let p:=st'.pos r z;let:S r (u r)=0:=g.sq.col0 (u r) r (st'.lt r z) ?l ?g;ext d};let p:0<S r' r':=g.pos r' z;let:S r' r'=0:=hz' r' r' ?l ?g ?g;ext d);subst er;let d1:=s1.good.dual ?abB;let d2:=s2.good.dual (Zc w n ?zd);let tl:=s1.told ?l (S3 (VX (n:=n) (w:=w) A));let t2:?awJ ?aUg:=?awD (Z6 (T:=R) (P:=?Zc) (Q:=one) tl x c hx hc);let tl2:=s2.told ?l (S3 t2);apply#[r',_,hr,rw',pr,#[e0,g,?bv,?awD ?_,?bv,VB.start g],hd,hd'];{(let:Vs n ?aN w r' t ?vs ?S4:=by rw[Ga];show K);show ?asg ?Hd ?a1S};{(let:Vs w ?g1 n r' u ?aVQ ?a0J:=by rw[Ga];show K');show ?asg ?Hd g.sq.flip.row0};{exact S c x=_;rw[tl2 c x hc hx,Qp]};{(let:?aHA:=by rw[Ga];show d1);show ?Cm};(let:?a9o:=by rw[Ga];show d2);show ?Cm
structure Iz(n w m:Nat)(E:Nat)(A P PB Q QB:Mat)[?aI]:Prop where
 mn:?jI
 mw:?vb
 diag:?b63 (?atN ?F5 ?a0K=?aiF)
 pos:?b99 m (0<f x)
 zero:∀x,m<=x->x<n->x<w->f x=0
 prod:?gi<=E
 dl:Gu n 0 P PB
 dr:Gu w 0 Q QB
def GS[?hp]{T P B:Mat}(h:?aXA):Gu n 0 P B:=?b4Z (by rw[←?aRz];unfold pD;show ?aub (by rw[beside_hi,qu4]))
def X4.diag{n w r E L m:Nat}{e:Int}{A T P PB Q QB:Mat}{kl kr:?Y}{hl hr:?J}[?arF](s:?yt):?awj r (λx=>T x x):=by apply#[h.going.sq.rn,h.going.sq.rw,λx y hx hy=>?_,h.going.pos,λx h1 h2 h3=>?b62 h.going.sq.row0 x x,h.going.prod,GS h.dl,GS h.dr];rw[←?b12 ?JN];cases z:x=y;{rw[?b1,z]};ext hi;show s x y hx hy z
def Iz.share{n w m E:Nat}[?MK][?aD](h:?ahD)[?fn][?a73][?arV] : Iz n w m E A (?an ?uz j i ?K4) (?an (?an PB j i ?bN) i j ?X3) (?bw Q i j a b ?F2 ?lM) (?bw QB i j ?lM ?a3d (-b) a) (?b7P g ?A0):=by let ne:?kA:=?g;let mn:=h.mn;let mw:=h.mw;let pi:=?bn i ?yd;let pj:=?BU;let pg:=S.pos;let pr:=S.pair;let gz:?lM*g=?aC:=Int.ediv_mul_cancel S.dA;(let po:0<?A0:=by (let:0<g*?A0:=by rw[pr.pr];show ?HS pi pj);show Int.pos_of_mul_pos_right ?P ?g);apply#[mn,mw,IE ?aZm ne ?g ?g ?g ?g ?IC S,?xr,λx h1 h2 h3=>?_,?bv,?_];{cases e1:x=i;{rw[e1,Xl];show pg};cases e2:x=j;{rw[e2,?oW];show po};rw[?aLS];show ?bn x hx};{rw[?b8U Mj f];show ?d5 x h1 h2 h3};{rw[TN hij hj ?g ?g pr.pr];show h.prod};{let d1:=?b1F h.dl.add 1;let d2:=d1.add (p:=j) (q:=i) ?g ?g ?hw ?K4;rw[qs7]at d2;show d2};let B:=S.blend (π:=?aM0+?aUu) pi ?aZj ?aZj;let d:=?b1F h.dr.blend B.one;rw[qs7]at d;show d
def Iz.le{n w m E:Nat}[?MK][?aD](h:?ahD){x:Nat}(hx:x<m):f x<=E:=qp2 (cE ?bn hx) ?V4
abbrev aE(n r:Nat)(kt:?Y):?eD:=λc=>∃j,?cA/\?aU/\c=?cH
def Vs.bits{n W w r β η:Nat}[?u1]{M B:Mat}[?a6r][?arl](b1:?awR β M)(b2:?aSL)(hβ:?V8):?b5f W β (M,B):=by apply#[b1,b2,λk c hk hc=>?_];let ?aFW:=hc;(let le:?aOc<=?rA:=by ext M5;let q:=?aZH;(let q':?aAZ:=by ext aoV);rcases qn7 k j with z | z | z;{let ?js:=?b2j k z;show Ar.arz2 a b q'};{subst z;rw[?qh k h1 h2];show q'};rw[?b1h hk z hk];show ?a5);exact ?aOc*2 ^ ?ks<?fS;(let e:?fS=2 ^ ?iQ*2 ^ ?ks:=?axv qe8 hβ);rw[e];apply Nat.mul_lt_mul_of_pos_right ?_ ?y0;show fZ le
abbrev Po(π b η r n:Nat):Nat:=?kK+?Gk
def JZ{β e t:Nat}(h:e<=β):β+t-(β-e)=e+t:=by rw[qo6 β t,Nat.add_sub_assoc ?lk,Nat.sub_sub_self h,qo6]
def Ah8{n W r β η π b:Nat}{kt:?Y}[?gZ](bb:?b5f W ?Hl s)(hr:?d3)(hβ:?V8):?axk r ?kC:=by let:=yT bb hr (kt:=kt) (?av2 ?aFW) (qg4 ?lk);rw[JZ hβ]at this;show this
def sX(π b:Nat){i r:Nat}(h:i<=r):?Ix<=?kK:=by induction r with| zero=>rw[?ajB];ext eq| succ r ih =>cases e:i=?c1;{rw[e];show ?l};let:=?ce;exact _<=?kK+Hr π b r;show ?NY
def uP(c η r:Nat){d e:Nat}(h:d<=e):?aNd<=?aFm:=by induction e with| zero=>rw[?ati d];ext eq| succ e ih =>cases z:d=?lq;{rw[z];show ?l};let:=?ce;exact _<=?aFm+_;show ?NY
universe Lat
namespace Hb
open PySem L2
def PD{g:TG}[?gU][?E][?pO][?asA][?ek][?apz] [?ao5]:?asP ?Kl sY:=UR hn Pv h0 hl (λi x y zs τ H p e1 e2 q hp=>?ayY q) hd
meta abbrev big:Nat:=67108864
def Aq7:∃n:Nat,n=?jY:=?ik
abbrev L9:Nat:=?aEI Aq7
def eF:L9=?jY:=?a8h Aq7
def oJ[?j9]{n:Nat}(hi:?aKL)(hj:?ak2)(h:?b9J (9000+n<=134217728)):?sZ:=L6 ?VW hj h
def IU[?j9][?arv]:?sZ:=L6 ?VW ?aMk ?L
def X7.of9[?j9](h0:j≠0)(h:?ahN):X7 i j:=X7.of h0 (eF▸h)
def B71[?j9][?arv]:?aHF<2 ^ 18000:=by rw[qb7,?b2V (18000=9000+9000),qf2];show qn2 ?VW ?aMk
def le9{x π:Nat}(h:?TF)(hπ:π<=8999):x<L9:=by rw[eF];show ?b1P h (qk1 hπ)
abbrev BO[?j7][?ff]:Prop:=?fX n W big s.1/\?fX n n big s.2
abbrev TA(H:Hp)(r:Addr)[?MY][?j7](f:Lat.Mat):Prop:=as.length=n/\?b4H H r ?m1/\∀i c,as[i]?=?e3->?b4H H c ?aBU
section
variable[?E][?bF]{r:Addr}[?md]{n W:Nat}{f g:Lat.Mat}
def TA.keep[?hd](h1:∀o,H r=?Z->H' r=?Z)(h2:?aUh):?a41:=#[x.1,h1 _ ?tW,λi c e=>h2 c ?vm _ (?rb i c e)]
def TA.same[?hd][?fi]:?a41:=?a02 (λ_ e=>?Nc) λ_ _ _ e=>?Nc
def TA.put{y:Addr}{o:HO}[?hd](h1:r≠y)(h2:∀a∈as,a≠y):TA (?auf y o) r as n W f:=?a02 (λ_ e=>?avk h1) λa ha _ e=>?avk (h2 a ha)
def TA.row[?hd]{i:Nat}[?hr]:∃c,as[i]?=?e3/\?avL ?m1 ?hQ/\c∈as/\?asu c ?aBU:=by let ?GD:=x;let e:=qa0 (l:=as) (i:=i) ?g;apply#[as[i],e,by rw[qa6,e];rfl,?ji,.of (h3 i _ e)]
def TA.rep[?hd]:?ash ?St (dT n W f):=by apply MJ (us:=?m1) (.of ?tW) (by rw[qa3,x.1]) ?k0;let#[c,_,e,_,h]:=x.row (K:=K) hi;show#[c,e,h]
def TA.there[?hd]:H r≠none/\∀a∈as,?yu:=by apply#[?b9W ?tW ?l4,?wF];let ?eO:=qg8 ha;rw[?agf];show ?a8D
def TA.of[?dW]{H1:Hp}{w h:Nat}[?pT](hl:?L2):TA H1 D as h w f:=#[hl,R.at,λi c e=>(?Cr i c e).2.2]
def TA.congr[?hd](e:?auj (c<W->?EH=g i c)):?azT H as g:=by
 apply#[x.1,?tW,λi c ec=>?_];let hi:?M:=by rw[←x.1];show(?bi ec).1
 rw[?rb i c ec,U2 λk hk=>?b7c e k hk]
def TA.x[?Mp][?pX][?hd][?LJ]:?a41:=by apply ?a02 (λo e=>?awf ?tW hp e) λa ha o e=>sx _ _ ?_ e;let ?eO:=qg8 ha;show ?b9X ?agf hp
def TA.made{H2:Hp}{L D:Addr}{i:Nat}[?hd](s2:?aHs)[?hr](hL:?b4H H2 L (?aYD i ?cr))(hD:?b4H H2 D (VI W ?n3))(e:∀r,?Jr->g r=f r):TA H2 L (as.set i D) n W g:=by apply#[by rw[ql6,x.1],by rw[hL,List.map_set],λj c ec=>?_];rw[qt8]at ec;cases hj:i=j;{subst hj;rw[?K,?A ?YL]at ec;cases ec;show hD};rw[?xK]at ec;rw[e j ?aka];show s2 _ _ (?rb j c ec)
def TA.two[?fn]{D1 D2:Addr}[?hd][?hr](hj:?aU)(hij:?kA)(h':?b4H H' r ((?aYD i ?EJ).set j ?HB))(keep:?aUh)(h1:?b4H H' D1 (VI W ?n3))(h2:?b4H H' D2 (VI W (g j)))(e:∀k,k≠i->k≠j->g k=f k):?azT H' ?aHc g:=by apply#[by rw[ql6,ql6,x.1],by rw[h',List.map_set,List.map_set],λk c ec=>?_];rw[qt8,ql6]at ec;cases hkj:j=k;{subst hkj;rw[?K,?A (by rw[x.1];show hj)]at ec;cases ec;show h2};rw[?s hkj,qt8]at ec;cases hki:i=k;{subst hki;rw[?K,?A ?YL]at ec;cases ec;show h1};rw[?s hki]at ec;rw[e k (?atR hki) (?atR hkj)];show ?h1 c (qa9 ec) _ (?rb k c ec)
def qR[?fn]{D1 D2 a:Addr}(h:a∈?aHc):?My\/a=D1\/a=D2:=by rcases qr9 h with h | h;{rcases qr9 h with h | h;{show ?ju};show ?y ?ju};show ?y ?kD
def Mo{l i:Nat}(h:i<l):ixN l ?aL2=?vA:=by unfold ixN;rw[?bD,?A (?IZ h),qb8]
universe e9
abbrev mNames:?bM:=["turn","blend","put_in","meet","shrink","shrink_row"]
structure LX(H:Hp)(C p r b:Addr)(sv:?fw)[?j7][?ff](N:?gR):Prop where
 ob:Ji λdx fs=>H p=?s3/\Di (?avJ "rows" ?St) (?h3 ("backs":Str)=?Sp) (?h3 (?aDv:Str)=sv) ((∀m∈mNames,?wE)) ?aeL
 rw:∃as,TA H r as n W s.1/\∀a∈as,?aQK
 bk:∃bs,TA H b bs n n s.2/\∀a∈bs,?aQK
 ne:r≠b
 nr:¬N r
 nb:¬N b
 nn:∀a,N a->?yu
def LX.keep[?bF][?LC][?Mf][?Lk][?Mk]:?aT9:=by ext apK;show#[?aIx,#[as,?aTX,a2],#[bs,?aOA,b2],x.ne,x.nr,x.nb,λa ha z=>x.nn a ha (e.free z)]
def LX.refs{H:Hp}[?LC][?Mf][?Lk]:p≠r/\p≠b:=by let#[dx,fs,h1,_]:=x.ob;let#[as,a1,_]:=x.rw;let#[bs,b1,_]:=x.bk;show#[?b9X h1 (a1.2.1),?b9X h1 (b1.2.1)]
abbrev tnS(t:Tn)[?ff]:?bj:=(ZS t s.1,ZS ?Qu s.2)
abbrev A03[?j7](f:Lat.Mat):?acd| .ad i j k=>?M/\?aU/\?kA/\?avZ W (?cN k ?NC)| .mi i=>?M| .sw _ _=>False
abbrev y3(r b:Addr)[?ml]:Prop:=∀x o,x≠r->x≠b->H x=?Z->H' x=?Z
def y3.of{r b:Addr}[?bF][?fi]:?xm:=λ_ _ _ _ e=>?Nc
def y3.trans{r b:Addr}[?uP](x:?azh H1)(y:y3 r b H1 H2):?azh H2:=λa o n1 n2 e=>y a o n1 n2 (x a o n1 n2 e)
def y3.l{r b:Addr}[?bF]{o:HO}(x:?xm):?azh (?C H' r o):=?awx n1
def y3.r{r b:Addr}[?bF]{o:HO}(x:?xm):?azh (?C H' b o):=?awx n2
section
variable[?n][?dQ]
abbrev BV:Sp:=?asE (Ex7 λ(r:Addr) (u:V) (as:?cC) ?te (f:Lat.Mat) ?VP=>Lj (vs=[?St,u]) ?als ?Z7 (A03 n W f t) ?l3 ?Br (∀[?hq] (as':?cC) (H':Hp),?b4m (TA H' D as' n W (ZS t f)) (∀a∈as',(?My\/?ly)/\?yM)))
abbrev Pw[?d0][?dQ]:Sp:=?asE (X9 λ(p dx C:Addr) (r b:V)=>Bv ?aVk ?Wb ?aO2 (∀H',(∀fs,fs=?aL5->H'=?C (?C H p (?eb C dx ?aP5)) p ?IE->?dm)))
abbrev M6[?n][?dQ]:Sp:=?asE (mW λ ?yU (u:V) (C r b:Addr) ?a2m ?te ?qA ?UE ?VP=>EI (?b9G u) ?Wb ?ZX ?Z7 (A03 n W s.1 t) (A03 n n s.2 ?Qu) ?l3 ?Br (∀(r' b':Addr) (H':Hp),?JL->?aRd->?aDH->LX H' C p r' b' sv n W (tnS t s) N->?dm))
abbrev z9:Sp:=?asE (∃A B:Int,vs=[?t A,?t B]/\0<A/\?Tl/\?aTZ/\?aP1/\∀(L:Addr) (g a b:Int) (H':Hp),?aM->SqT K H' L [?t g,?uh,?lN]->?I5 A B g a b->?acs)
abbrev Px[?n][?dQ]:Sp:=λvs H Q _=>A85 λ(p C r b:Addr) ?a2m (n W i j:Nat) (A B:Int) ?qA ?UE=>As6 (vs=[?aK,?aX,?oX,?t A,?t B]) ?Wb ?ZX ?M ?aU ?kA ?l3 ?Br (0<A) ?Tl ?aTZ ?aP1 ?TV (∀(L:Addr) (g a c:Int) (H':Hp),?xm->?Fn->?aw6 H' L [?t g,?uh,?Db]->?I5 A B g a c->?awi (?a1R i j a c ?Pl ?qZ s) N->?acs)
universe e9
abbrev Hds(W:Nat)[?aj](f m:Nat)(R:Lat.Mat):Prop:=∀j,?b1i (?aF<W/\?A6/\?ic<L9)
structure SX(CS:Addr)(H0 H:Hp)(p q:Addr)(M:?gR)[?j7][?aj](cnt:Nat)[?ff]:Prop where
 ex:∃r b,?ak9/\?anl/\?aaU
 st:?b4H H q (VI cnt λi=>((?fz:Nat):Int))
 same:?sf
 fp:?DB
 fq:?auL H0 q
 mq:M q
 sm:?aQc/\W<=200/\cnt<=n
section
variable{CS:Addr}{H0 H H':Hp}{p q:Addr}{M:?gR}{n W cnt:Nat}[?S]{s s':?bj}
def SX.redo{H1:Hp}{r' b':Addr}[?a6A](e:?l1)(sx:?ie p H1 H')(h1:?auL H1 r')(h2:?auL H1 b')(y:?b0g r' b'):?aCK:=by let s1:=?Op e;have#[r,b,z,_]:=x.ex;have#[dx,fs,hp,_]:=z.ob;show#[#[r',b',y,s1.free h1,s1.free h2],?awf x.st hp (e _ _ x.st),sx.same s1 x.fp,x.fp,x.fq,x.mq,x.sm]
def SX.redo2{r b:Addr}[?a6A](lx:?ak9)(f1:?anl)(f2:?aaU)(fr:?xm)(_kp:?Fn)(y:?b0g r b):?aCK :=#[#[r,b,y,f1,f2],fr _ _ (λz=>?Ge ?agz) (λz=>?In ?agz) x.st,?axQ f1 f2,x.fp,x.fq,x.mq,x.sm]
def SX.re[?a6A](h:s=s'):?aty H s':=h▸x
universe e9
def insAt_get[?dV][?a6d](h:?a0Y)(j:Nat):?a3w[j]?=if j<k then ?FO else if j=k then ?hG else ?b3E ?eF:=by unfold insAt;cases h1:j<k;{rw[?im,qc5 ?YW,qj0,?im]};rw[?f2,qc4 ?YW,qc3,qq5 h];cases h2:j=k;{rw[?lj,h2,qk3];rfl};rw[?gp];obtain⟨e,rfl⟩:∃e,j=?F+e:=#[j-?F,?g];rw[?asC (?F+e-k=?lq),List.getElem?_cons_succ,qw5];congr 1;ext d
def fX[?dV]{xs:?d6}{i s:Nat}{y:α}(hi:?A3=?hG)(hs:?tK)(j:Nat):(?pE s y ?a3f)[j]?=xs[Lat.mvI i s j]?:=by let hl:?lC:=?nC;rw[?b8R ?amf (by rw[qm5 hl];show Ar.arn9a (qc1 hs hl))];unfold Lat.mvI;cases h1:j<s;{rw[?im,?im,List.getElem?_eraseIdx,?bD]};rw[?f2,?f2];cases h2:j=s;{rw[?lj,?lj,hi]};rw[?gp,?gp,List.getElem?_eraseIdx];cases h3:?ea;{rw[?bD,?A h3]};rw[?z,?s h3];congr 1;ext d
def gI{α β:Type}(g:α->β)[?a6d]:?awT ?a3w g=?pE k (g y) (?ow g):=by unfold insAt;rw[qb2,qd7,qp5,qt4]
def i9{α β:Type}(g:α->β):∀(xs:?d6) (i:Nat),?awT ?a3f g=(?ow g).eraseIdx i| [],_=>rfl| ?bH,0=>rfl| ?r9,?k=>?cv (g x::·) (i9 g xs i)
def TA.move[?mn]{r:Addr}[?md]{n W i s:Nat}{f:Lat.Mat}{ci:Addr}[?hd][?pZ](UH:?avL as ci)(h1:?b4H H1 r (?pE s (?I ci) ((?m1).eraseIdx i)))(h2:∀a∈as,H1 a=?b0) : ?azT H1 ?adc (Lat.moveR f i s)/\?aku:=by (let mem:?aku:=?azf (by let ?NK:=qi1 ha;rw[?aAJ]at hj;show ?qO));apply#[#[?bv,λj c e=>?_],mem];{unfold insAt;rw[qb6,qd5,qc3,qi7,qm5 ?YL,x.1];first | show zn8 hi hs | ext d};{rw[h1,gI,i9]};rw[?aAJ]at e;rw[h2 c ?vm,Lat.move_row];show ?b8Q ?rb
def nJ{i s st:Nat}[?S](hs:?tK):?pE s (?aB ((st:Nat):Int)) (VI i λk=>((?bp:Nat):Int))=VI ?k λk=>((?aGH t s st k:Nat):Int):=by refine qt9;intro j;rw[?b8R ?amf (by rw[Bz];show hs)];cases hj:?vq;{rw[C7 hj];unfold Lat.insT;cases h1:j<s;{rw[?im,?im,?Tn]};rw[?f2,?f2];cases h2:j=s;{rw[?lj,?lj]};rw[?gp,?gp,?Tn]};rw[?z,?z,qj5 (by rw[Bz];show qv0 (qf4 hj)),?CX]
def bX[?aj](p f:Nat)[?ff]:∀d l,l≠p->(?sm t p f s d).1 l=s.1 l| 0,_,_=>rfl| ?bg,l,h=>by rw[Lat.shrS];exact ?ayG Lat.addR l=_;rw[Lat.addR_row_ne h];show bX t p f s d l h
abbrev HU[?j7][?aj](i f m:Nat)[?ff]:Prop:=∀d,d<=m-f->BO n W (?sm t i f s d)
abbrev PR[?j7][?aj](i:Nat)[?ff]:Prop:=∀d,d<=i->Hds W t ?cn ?k (?akF).1/\HU n W t ?cg ?cn ?k ?akF
abbrev Bj9[?aj](spot i:Nat)(k:Int)[?ff]:?bj:=?b0n i ?aZ7
abbrev CU[?a6V][?ff]:?bj:=?a1R ?o i a b ?Pl ?qZ s
abbrev XF[?aj][?a6V][?ff]:?bj:=?b0n ?o (CU ?o i A B g a b s)
abbrev Bj8[?aj][?a6V][?ff]:?bj:=?b0n i (XF t ?o i A B g a b s)
structure yU[?j7][?aj](spot i:Nat)[?ff](Nx:?vo):Prop where
 bo:?TV
 hd:Hds W t ?o i s.1
 oth:?la≠0/\?ath ?la L9
 add:∀k,?la=k*?qw->?azq i ?aZ7/\Nx (Bj9 t ?o i k s)
 ble:∀g a b,?I5 ?qw ?la g a b->?azq ?o (CU ?o i ?qw ?la g a b s)/\?azq i (?b6T XF)/\Nx (?b6T Bj8)
structure A73(n W i:Nat)[?aj](s0:?bj)(I:?a9u):Prop where
 start:I 0 s0
 ok:?b6Y ?hN (∃c,c<W/\?vp≠0)
 skip:?b6Y ?vc ((∀c,?ro->?vp=0)->I ?aP s)
 meet:?b6Y ?vc ((?avZ ?gJ (?vp=0))->?la≠0->yU n W t ?o i s (I ?aP))
abbrev J9(W:Nat)[?Az](st:Nat):Prop:=(?avZ st (u c=0))/\u st≠0/\st<W
def J9.one{W W':Nat}[?gb]{a b:Nat}(h:J9 W u a)(k:J9 W' u b):a=b:=by rcases qn7 a b with e | e | e;{show ?X (k.1 a e) ?v5};{show e};show ?X (h.1 b e) k.2.1
def J9.ex{W:Nat}[?gb](h:∃c,c<W/\u c≠0):∃st,?aLB:=by let ?TK:=h;induction c using Nat.strongRecOn with| _ c ih =>cases z:∃d,d<c/\u d≠0;{let#[d,hd,hd0]:=z;show ih d hd (qd8 hd hc) hd0};apply#[c,?x4,h0,hc];show qi4 λk=>z #[d,hd,k]
structure MR[?j7](J:?aeU):Prop where
 step:∀i t s,?M->J i t s->∃I,?acl/\∀spot st s',?hN->?Xv->?Zt->?Cs →
  PR n W ?I1 i ?Y1/\J ?k ?I1 (?a4D ?I1 i ?Y1 ?k)
def pN{w n:Nat}{f g:?J}{h:?J}(h1:?ata (h c=f c))(h2:∀a,a<n->h ?dY=g a):VI w f++VI n g=VI ?aN h:=by refine qt9;intro j;cases e1:j<w;{rw[qc5 (by rw[Bz];show e1),C7 e1,C7 (qy6 _ e1),h1 j e1]};rw[qc4 ?nE,Bz];cases e2:j<?aN;{rw[C7 ?aEj,C7 e2,←h2 (j-w) ?aEj,?ass (w+(j-w)=j) qe8 ?aZg]};ext aqX
def Ah9{w n:Nat}[?aD]:Co ?aUj ?KH ?aO=VI n ?aGC:=by
 ext aor;let s1:?jm ?aN 0 ?KH=w:=?aQ7
 unfold Co;rw[Bz,s1,←e,List.drop_append_of_le_length ?nE,?aNW ?nE,qt2];refine qi6;rw[Bz];simp only[HT.sIx];ext d
def Bs8{w n:Nat}[?aD]:Co ?aUj ?aO ?KH=VI w f:=by
 ext aor;let s1:?jm ?aN ?aN ?KH=w:=?aQ7
 let s2:?jm ?aN 0 ?aO=0:=rfl;unfold Co;rw[Bz,s1,s2,List.drop_zero,zc7,←e,ql7 ?nE,qi6 ?nE]
section
variable[?n][?dQ]
abbrev z7[?n][?dQ]:Sp:=λvs H Q _=>Ai3 λ ?e8 (L r b:Addr) ?a2m ?UE ?rE (T P PB:Lat.Mat) (J:?aeU)=>EI (vs=[v,?EQ,?a3S]) (?ash v (dT n w T)) (LX H CL L r b sv n n ?a2S N) ?Wl ?FY (?b2A J) ((∀t,J 0 t (?W3 w T P,PB))) ((?b7B J)) (∀(tp D L' r' b':Addr) [?MY] [?aj] [?ff] (H':Hp),?aM->J n t s->?aw6 H' tp [?cr,?I L']->TA H' D as n w s.1->LX H' CL L' r' b' ?aO n n (λx a=>s.1 x ?dY,s.2) N->?bl->?auL H L'->?aRd->?aDH->?aVT)
abbrev Yk:Sp:=?asE (Sx λ ?a9U (W st:Nat) (u:?J)=>Di (vs=[?hQ]) (?b5I c (VI W u)) ?aLB ?Br (?b6i ((st:Int))))
abbrev M5[?d0][?dQ]:Sp:=?asE (mW λ ?hy ?Ea ?F0 ?te ?Bf (cnt:Nat) ?qA (i f:Nat)=>Z3 (?b7F ?aX (?t f)) ?aNr ?M (f<=cnt) ((i<f\/cnt<=i)) (Hds W t f cnt s.1) (HU n W t i f cnt s) (∀H',?b4O cnt (?sm t i f s (cnt-f))->?dm))
abbrev BU[?d0][?dQ]:Sp:=?asE (Ex9 λ ?hy ?Ea ?F0 ?te ?Bf ?m6 ?qA=>Bv ?G4 (?b60 ?k) (PR n W t i s) (∀H',?b4O ?k (?a4D t i s ?k)->?dm))
abbrev kH[?d0][?dQ]:Sp:=?asE (mW λ ?hy ?Ea ?F0 ?te ?Bf (?o i:Nat) ?qA (Nx:?vo)=>Ey (?b7F (?t ?o) ?aX) ?aF0 ?vc ?M (yU n W t ?o i s Nx) (∀H' s',?b4O i s'->Nx s'->?dm))
abbrev bV[?d0][?dQ]:Sp:=?asE (VC λ ?hy ?Ea ?F0 ?te ?Bf ?m6 ?qA (I:?a9u)=>Ey (?b9G ?aX) ?aF0 ?M ?acl ?Kx (∀H' spot st s',?hN->?Xv->?Zt->?Cs->SX CS H0 H' p q M n W ?I1 ?k ?Y1->?dm))
abbrev KH[?d0][?dQ]:Sp:=?asE (Sx λ ?aQp (r b:V)=>Ft ?aVk (H p=?b4P CS []) (∀q H' fs,H q=none->fs=?oS ?aDv ?aHW ?aL5->?JL->H' q=?i ?tN->H' p=?b4P CS fs->?dm))
universe e9
universe Hb
namespace L2
open PySem PySem.Spec PyProof.Rows PySem.SeqAt
def cT[?j4][?a6e]:?av4 Builtin.«dict.__ne__» ?OE :=
 ?ajX λprog w A R s hs=>by
  let ?ajG:=hs
  exact ?p ?ab A.in1 (do
   let ?a8k ←?aO1 ?UJ ?EL
   if ! ?aFE then ?azC ?UJ;return ←ret .notImplemented
   ?aw0 ?UJ false) _ _ s
  ext ao3;let e:∀b:Bool,(b==false)=!b:=?L
  rw[e];show qc6 ?a4k
def RcNeAt.dicts[?dT][?bC][?ap1] : RcNeAt A s ?R ?bT ?OE:=λprog w E Q h =>?aAb (op:=?SG) ?RP ?a4M PySem.F.slot_dict_ne PySem.F.entry_dict_ne (PySem.F.args_dict_ne_2 _ _) (cT a b ms ns) (?b46 ?OE) hu
inductive Ar6[?en]:Prop| mk:?awK ?a8z ?acx
abbrev B50:R2:=?at0 ?acx
section
variable[?Mo][?E]
def NY[?mY]:?b28 B50:=?auU RcNeAt.dicts ?a8z
def UW[?dp]:?asW ?YC (∃(p:Addr) (bs:?B5),?fC/\?aLn/\Q ?a4i H):=by ext anv;apply call_any_walk ?a3T;apply#[?a6q,?ahF,?a76,?abu];ext aoF;(let e:(?dz ?yr).any ?ahF=?aSf:=by ext LX;rw[qd4,←l1];rw[qq7,qs2,qs2];constructor;{rintro ⟨i,hi,hx⟩;let hlt:=?gy;(let hb:?xU=?i bs[i]:=?G);rw[hb]at hx;show#[_,qd6 hlt,hx]};rintro ⟨b,hb,hx⟩;let ?xk:=?Pu;apply#[i,?aO7,?_];rw[hi];show hx);rw[e];ext a5J;show#[?a4i,H,I1,?h,q]
def HF:?awQ "any" ?YC:=?cX
def CY[?dp][?bJ]:?asW ?YC (∃(p:Addr) (bs:?B5),?fC/\?aT8/\Q ?a4i H):=?atS UW hc
universe e9
universe L2
namespace Hb
open PySem L2
abbrev At0:?bM:=["straighten","step","put_in_order","share"]
section
variable[?E][?bF]
def DC{nm a:Addr}(h:a≠nm):?a7X=?b0:=Y7 h
def UE{nm a:Addr}(h:a=nm):?azZ ?a7X:=DB h
def Ak7[?Mp][?pX][?dP](h:?gv)[?LJ]:?aXH:=?aII
def qC[?Mp][?pX][?dP][?Ah][?LJ]:?a1X:=?aII
def Bg0{nm:Addr}{ys:?a2}{o:HO}[?dP][?Ah](hn:H nm=?E1):SqT K (?auf nm o) a xs:=by rcases h with(h|⟨u,h⟩) | h;{show ?b6B ?aE3};{show ?aud u ?aE3};show ?kD
def WA{m i:Nat}[?aD]{x:Int}(hi:i<m):(VI m f).set i ?Cg=(Ic m λk=>if k=i then x else f k).map ?aB:=by exact _=VI m _;refine qt9;intro j;rw[qt8,Bz];cases hj:i=j;{subst hj;rw[?K,?gQ,C7 hi,?K]};rw[?xK];cases h2:j<m;{rw[C7 h2,C7 h2,?s ?aka]};ext aqX
def Ci2[?Mp][?pX]{v:V}[?hp][?eo](h:?ash v ?ahk)[?LJ]:?axo v ?ahk:=by let#[a,us,?gf,hl,hr]:=J0 h;apply MJ (Ak7 hq hp sx) hl ?k0;let e:=qa0 (l:=us) (i:=i) ?g;let ?a2s:=hr i _ e;show#[b,?anJ,Ak7 hb hp sx]
universe e9
def LX.x[?bF][?LC][?Mf]{q D dx:Addr}[?pX][?Lk](hq:H q=?b4P D fs)(hqp:q≠p)(sx:?ie q H H')(kp:?Fn):?aT9:=by let ?aYW:=x.ob;let ?Ew:=x.rw;let ?P1:=x.bk;show#[#[dx,fs,sx _ _ hqp.symm h1,h2],#[as,a1.x hq sx,a2],#[bs,b1.x hq sx,b2],x.ne,x.nr,x.nb,?azf (kp a (x.nn a ha))]
def LX.more[?bF][?LC]{N N':?gR}[?Lk][?Mk](h:∀a,N' a->N a\/?ly)(hn:∀a,N' a->?aCd):?awi s N':=by ext apK;apply#[?aIx,#[as,?aTX,?azf #[(?Vb).1,(?Vb).2.1,?f3]],#[bs,?aOA,?azf #[(?Mu).1,(?Mu).2.1,?f3]],x.ne,?f3,?f3,hn];{show ?aD1 ?Ed (a1.there.2 a ha)};{show ?aD1 ?a9G (b1.there.2 a ha)};{show(h r z).elim x.nr a1.there.1};show(h b z).elim x.nb b1.there.1
structure WX[?n](CL CW:Addr)(H0 H:Hp)(p L R nm:Addr)[?bu](M:?fW ?Kv)[?iu][?ga]:Prop where
 ob:Kz λtv dx fs=>H p=?b4P CW fs/\Z3 (?avJ "table" tv) (?avJ "width" ?Vr) (?avJ "left" ?a3S) (?avJ "right" ?aGw) (?avJ "numbers" ?aaH) ((∀m∈At0,?wE)) ?aeL (∀M',M=?Sh->?b5W (Y8 H ?tL) tv (dT n w M'))
 li:Sx λr1 b1 r2 b2=>?aJx/\?aOZ/\Bv (?auL H0 r1) (?auL H0 b1) (?auL H0 r2) (?auL H0 b2)
 nu:H nm=?i ?aQU
 same:?sf
 fr:?DB/\?auL H0 L/\?auL H0 R/\?auL H0 nm
 ne:p≠L/\p≠R/\L≠R
 sm:?Wl/\?FY
abbrev vF(m:Nat)(M:Lat.Mat):?O:=(?b1p m ?C0).filter λx=>?w (x≠0)
def WX.keep[?E]{CL CW:Addr}{H0 H H':Hp}{p L R nm:Addr}[?AL][?fd][?LG][?fi]:?asb H' M ns:=by ext aon;show#[(?b7a ?aOX (WD s)),#[?Mq,lx.keep s,?aTM,f],?aIE,?Op s,?Av]
def WX.num[?E][?are][?AL][?fd]{ns ns':?O}(x:?aFg):?asb ?aC1 M ns':=by ext aon;let hpn:p≠nm:=?b9X hp ?r1;(let go:∀{q r b:Addr}{m:Nat}{s:?bj}[?Mf],?azo H->N nm->?azo ?aC1:=λ{q r b m s N} y hN=>by have#[d2,f2,?cc]:=y.ob;have ?Ew:=y.rw;have ?P1:=y.bk;apply#[#[d2,f2,by rw[Aj (?b9X e1 ?r1)];show e1,e2],#[as,?b1E a1.put y.nr ?Ed,a2],#[bs,?b1E b1.put y.nb ?a9G,b2],y.ne,y.nr,y.nb,λa ha z=>?_];cases e:a=nm;{rw[e,Ab]at z;cases z};rw[Aj e]at z;show y.nn a ha z);apply#[(?b7a (by rw[Aj hpn];show hp) (gK λa o n e=>?avk n)),#[?Mq,go lx ?cB,?atk ly,f],Ab,λa o e=>by rw[Aj (Ap e x.fr.2.2.2)];show ?a4g,?Av]
def WX.drop[?E][?are][?AL][?fd][?LG]:?asb H ?aO ns:=by let ?aKT:=x.ob;show#[(?b2z ?WQ),x.li,?r1,x.same,?Av]
def WX.left[?E]{CL CW:Addr}{H0 H H1 H':Hp}{p L R nm r1 b1 r2 b2 r' b':Addr}[?AL]{l r l':?bj}[?LG](lx:?aJx)(ly:?aOZ)[?arI] (s:?l1) (sx:?ie L H1 H') (h1:?auS H1 r') (h2:?auS H1 b') (y:LX H' CL L r' b' ?mA n n l' ?Fo):?ax3 l' r/\?aul H' ?mA r:=by ext aqW;have#[dl,fl,hL,_]:=lx.ob;have#[dl',fl',hL',_]:=y.ob;have#[n1,n2,n3]:=x.ne;let kp:Kp H1 H':=Kp.x sx hL';let lz:=(?aTM).x (?axb hL) n3 sx kp;let s0:=?Op s;show#[#[#[?mk,sx _ _ n1 ?aOX,?iy,?WQ],#[r',b',r2,b2,y,lz,s0.free h1,s0.free h2,f3,f4],?awf ?r1 hL ?aIE,sx.same s0 x.fr.2.1,?Av],lz]
def WX.right[?E]{CL CW:Addr}{H0 H H':Hp}{p L R nm r1 b1 r2 b2:Addr}[?AL]{l r r':?bj}[?LG](lx:?avv H ?mA)(ly:?aul H ?mA r)(f1:?auS H0 r1)(f2:?auS H0 b1)[?arI] (fr:y3 r2 b2 H H') (kp:?Fn) (y:?aul H' ?mA r'):?ax3 l r'/\?aGP:=by ext aqW;have#[dl,fl,hL,hL2]:=lx.ob;have ?Ew:=lx.rw;have#[bs,b3,b4]:=lx.bk;have#[PK,c1,_]:=ly.rw;have#[bs2,c2,_]:=ly.bk;let no:∀a C d f,?b0u (?eb C d f)->?rY=?i (?eb C d f):=λa C d f e=>fr _ _ (?b9X e (c1.2.1)) (?b9X e (c2.2.1)) e;let lz:?aGP:=#[#[dl,fl,?ayG no hL,hL2],#[as,a1.keep (λo e=>?atK ?Ge ?Ge) λa ha o e=>?atK ?Ed ?Ed,a2],#[bs,b3.keep (λo e=>?atK ?In ?In) λa ha o e=>?atK ?aaP ?aaP,b4],lx.ne,?Ge,?In,?azf (kp a (lx.nn a ha))];show#[#[#[?mk,?ayG no hp,?iy,?WQ],#[?Mq,lz,y,f1,f2,f3,f4],fr _ _ (?atR ly.nr) (?atR ly.nb) ?r1,?axQ f3 f4,?Av],lz]
def T5(i:Nat)(M:Lat.Mat):vF ?k M=if ?C0=0 then ?Q4 else ?Q4++[?C0]:=by unfold vF;rw[ql5,qb2,qj1];cases h:?C0=0<;>simp[h]
def Ad2(i:Nat)(M:Lat.Mat):?asa ?Q4 i:=by unfold vF;apply ?m ?a1j ?_;rw[qa3,ql2];ext eq
structure X5[?bu](M:Lat.Mat)[?iu](Nx:?Ux):Prop where
 ex:∃J1,?b2A J1/\(∀t,J1 0 t (?W3 w M l.1,l.2))/\(?b7B J1)/\∀t1 s1,J1 n t1 s1 →
  ∃J2,MR w ?g1 J2/\(∀t,J2 0 t (?W3 n ?a1g r.1,r.2))/\(∀i t s,J2 i t s->?atr (?aF<?g1))/\∀t2 s2,J2 w t2 s2 →
    Nx (?axW ?sz) (λx a=>s1.1 x ?dY,s1.2) (λx a=>?sz x (n+a),s2.2)
section
variable[?n][?dQ]
abbrev Sh:Sp:=?asE (Sx λ ?e8 ?rE ?HT=>Ey ?FM (?b5W H v ?aXQ) ?l3 ?xT ((?Dk->?k6)) ((¬?Dk->?b3o ?x6)))
abbrev KI[?n][?dQ]:Sp:=?asE (Ex7 λ ?hy ?aQp ?e8 ?rE ?HT=>Z3 (?b7F v ?Vr) ?sf ?DB (H p=?b4P CW []) (?b5W H0 v ?aXQ) ?Wl ?FY (∀L R nm H',WX K CL CW H0 H' p L R nm n w ?a4n ?tV ?tV []->?dm))
abbrev kI[?n][?dQ]:Sp:=?asE (Ai3 λ ?hy ?F1 ?rE ?HT ?xz ?oH (Nx:?Ux)=>Bv ?G4 (?b5C ?a4n ns) (X5 n w M l r Nx) (∀L' R' M' l' r' H',Nx M' l' r'->?b4A ns))
abbrev Ta[?n][?dQ]:Sp:=λvs H Q _=>mW λ ?hy ?F1 ?rE ?HT ?xz (U:?aGg)=>Di ?G4 (?asb H ?a4n []) (?avd (∃m,?WD)) ((∀m M' l' r',?WD->¬?ani->X5 n w M' l' r' (λM2 l2 r2=>∃m',?so/\U m' M2 l2 r2))) (∀L' R' m M' l' r' H',?WD->?ani->?b4A (vF ?ef M'))
structure JQ[?bu][?dU][?aI][?iu]:Prop where
 p1:0<?aC/\?aM0<L9
 p2:?bR≠0/\?aUu<L9
 bl:BO n n l/\BO n n ?aaS
 br:BO w w r
abbrev shF[?dU](g:Int)[?aI]:?J:=Lat.put2 f i j g ?A0
abbrev shL[?dU](g b:Int)[?aI](l:?bj):?bj:=?Nn j i ?K4 ?aaS
abbrev ZY[?dU](g a b:Int)[?aI](r:?bj):?bj:=?a1R i j a b ?F2 ?lM r
abbrev fQ[?n][?dQ]:Sp:=λvs H Q _=>A85 λ ?hy ?F1 (n w m i j:Nat) ?xz ?CR=>EI (?b7F (?t ?cl) (?t ?gP)) ?aRl ?co (j<m) ?jI ?vb ?YZ ((?Ki->?ab1)) (∀g a b H',?Yi->WX K CL CW H0 H' p L R nm n w ?aO ?Uw ?a4Q (Ic m ?Yk)->?dm)
abbrev FQ[?n][?dQ]:Sp:=λvs H Q _=>Ai3 λ ?hy ?F1 (n w m:Nat) ?xz ?CR (V:?Fd)=>Lj ?G4 ?aRl ?jI ?vb (V 0 f l r) ((∀d i j f l r,V d f l r->d<5*m+m*m->?co->j<m->?b3V (V ?bg f l r) (V ?bg ?Yk ?Uw ?a4Q))) (∀d f' l' r' H',V d f' l' r'->?WN m m f'->WX K CL CW H0 H' p L R nm n w ?aO l' r' (Ic m f')->?dm)
universe e9
structure EG[?bu](A:Lat.Mat)(Fin:?Fd):Prop where
 ex:∃(U:?aGg) (Y:?ayu ?Fd),?b19 ?tV ?tV ?XJ ∧
  (∀m M l r,?XJ->¬?Dk->?avd (∃m',?so/\U m' M' l' r')) ∧
  (∀m M l r,?XJ->?Dk->∃k f,vF ?ef M=Ic k f/\k<=n/\k<=w/\Y k 0 f l r) ∧
  (∀k d i j f l r,?amL->d<?Po->?co->j<k->?b3V (Y k ?bg f l r) (Y k ?bg ?Yk ?Uw ?a4Q)) ∧
  ∀k d f l r,?amL->?agY
structure EF[?n][?ml][?a6k](n w k:Nat)[?aI][?iu]:Prop where
 same:?aM
 tup:?aw6 H' tp ?aQS
 num:?b4H H' nm ?N6
 left:?axo ?Rq ?aQo
 lback:?axo ?EJ ?aOo
 right:?axo ?HB ?aN8
 rback:?axo ?UP ?aWG
 new:∀a,?aFV->?ly/\∃us,?rY=?hL/\us.length<=60
section
variable[?n]
abbrev Yl:Sp:=?asE (X9 λ ?e8 ?rE (A:Lat.Mat) (Fin:?Fd)=>Ey (vs=[v,?Vr]) (?b5W H v (dT n w A)) (n<=40) ?FY (EG n w A Fin) (∀[?a6k] (k:Nat) [?aI] [?iu] (H':Hp),?agY->?WN k k f->k<=n->k<=w->?aQW->?aVT))
universe e9
universe Hb
namespace Hb
open Lat
section
variable[?iw]
def BB.bo{n W β:Nat}[?gZ][?M9](hb:β<=big):?TV:=#[(h.mono hb).1,(h.mono hb).2.1]
def JW[?dN]{R0 B0:Mat}[?S]{π b β:Nat}[?as4](hW:W=?aN)(dl:?awO R0 B0)(bb:?asM β (R0,B0))(hb:?Mv)(hπ:?yq)(hpg:?ND) (hG:∀spot (s:?cJ) st,?hN->?all->J9 W ?aBg st->G st) (hd:∀t1 Y R1 B1 R2 B2,?awk R0 B0 t1->?aAj->?axU ((R2 j ?Vq).natAbs<L9)) : ∃I,A73 n W i t (R0,B0) I/\∀spot st s',?hN->?Xv->?Zt->?Cs → PR n W ?fb i ?sl/\G st/\?avS ((?sl).1) ((?sl).2) ∧ Ss n W w i (?sl).1 (?sl).2 ?fb 0 (?U2).1 (?U2).2 ∧ ?asM ?vV ?U2:=by let hi:=H.hi;(let Aq4:∀spot,?hN->?aRO<=?J5:=λspot hs=>by unfold Hr;show ?m (?axc hs) ?ev);apply#[λspot s=>?all/\?asM ?a4v s,#[#[Ew.start H,by rw[Nat.zero_mul];show bb],?bv,?_],?_];{rintro spot s _ ⟨p,_⟩;let ?TK:=(p.good.dual dl).row hi;show#[?jM,?g,h0]};{rintro spot s hs ⟨p,q⟩ hz;apply#[p.skip hz,q.mono ?_];rw[qh6];ext d};{rintro spot s hs ⟨p,q⟩ hz h0;let lX:=Aq4 ?aP hs;rw[qh6,qh3]at lX;(let en:β+?aP*?oY=?a4v+?oY:=by rw[qh6,qh3];ext d);(let lA:?asX ?qw ?b7:=by rw[p.old ?o _ ?l hs];show H.hd ?o hs);let lB:=p.pv ?o ?l hs;apply#[?jC q ?g,?b91 #[H.lt j hj2,p.pos j hj2,le9 (π:=π) ?_ ?g],#[h0,le9 lB ?g],?h4,λg a b' sh=>?_];{rw[p.old j _ hj1 hj2];show H.hd j hj2};{let#[m1,m2,m3]:=p.meetAdd H hs hz hk q;apply#[?abv,m1,?_];rw[en];show m3 _ ?g};let#[m1,m2,m3,m4]:=p.meetBlend H hs hz (?alh (p.pos ?o hs) lA lB) q;apply#[?abv,?ayV (?jC (m4 d ?g) ?aKx),m1,?_];rw[en];show m4 _ ?g};rintro spot st s' hs ⟨p,q⟩ hB hex;let hGs:=hG ?o s' st hs p hB;let ?aQG:=Aa8 H p hs hB.1 hB.2.1 hB.2.2 hGs hpg hex q;apply#[λd hd'=>#[?b91 ?_,?axA (?jC (e5 d hd' m ?g) hb)],hGs,?cc,e4 _ ?l];let#[dn,_,_]:=DL e1 hi (e3.mono (qg7 (Aq4 i ?l) β)) d ?g;let hh:=hd _ _ _ _ _ _ e1 e2 j ?oC;rw[e2.hd j ?oC]at hh;let hx:=dn.hd j ?oC;apply#[e1.lt j ?oC,(dn.s0).pos j ?g,?_];rw[hx];show hh
universe e9
meta abbrev JF[?bu](M:Mat):?aD2:=λi t s=>E5 n ?aN w i ?xt M one t s.1 s.2
private def AE{n w b0 D π b β:Nat}{M:Mat}(hM:?b64 n (?n6->?a83))(dets:Su n ?xt M D)(h1:?Ev)(h2:?a92)(h3:?F3)[?ark](hbig:?agD)(hπ:?yq)(dl:?awO M one) : ?b2A (JF n w M):=by apply#[λi t s hi hJ=>?_];let iD:?a5B:=?m ?aLd h2;let H:=UN hM ?iY hJ hi h1 iD h3 h4;let bb:BB n ?aN ?xB 0 β (s.1,s.2):=Xy hM ?iY ?U7 hJ ?aCA iD h4 hβ hβ2;(let#[I,P,e]:=JW H ?h (hJ.good.dual dl) bb (hbig i hi) hπ hJ.pg (λ_ _ _ _ _ hB=>hB.2.2) (?atb hJ.next (show ?k<=n from hi) h1));apply#[I,P,?a9V];let#[e1,_,e3,e4,_]:=?b13 e;show#[e1,hJ.next e3 e4]
def JF.lt[?hp]{M:Mat}:∀i t s,JF n w M i t s->?Id:=λ_ _ _ h j hj=>?a2i
abbrev JL(n w r:Nat)(M B0:Mat)[?Lp](π b η β:Nat):?aD2:=λi t s =>(i<=r/\?atQ ?mD M B0/\?aZI) ∨ (?eR/\?atQ ?xt M B0/\?akK)
def JL.lt[?B3]{M B0:Mat}[?u1]{π b η β:Nat}:∀i t s,?ax6 i->?Id:=λ_ _ _ h j hj=>by rcases h with⟨_,h,_⟩|⟨_,h,_⟩<;>show ?ayF h.st.st.lt
private def AA{n w r E π b η β:Nat}{e:Int}{T P PB:Mat}[?u1][?Af](he0:0<e)[?LP][?as5][?arl] (hβ:?V8) (hbig:β+?xb<=big) (hE:?b33 E) [?M7] (hb:n*E<=?aT) (hπb:?Er) (hπ:?yq) (hη9:η<=8990) : ?b2A (JL n w r ?eA PB kt hd π b η β):=by let rn:=g.sq.rn;let dets:=AN (P:=P) g.dets;let A39:∀{i:Nat}[?S][?gZ],i<=r->?afm->?abJ:=λhi h j hj=>le9 (?m (h.st.headD ?iY hi hj) hE) ?g;(let hηN:?a7i:=?av2 (by ext M5;let q:=?aZH;ext aoV));apply#[λi t s hi hJ=>?_];cases hir:i<r;{(obtain⟨_,h,bb⟩:i<=r/\?afm/\?aZI:=by rcases hJ with hJ|⟨h,_⟩;{show hJ};ext d);let H:=tZ g (qg3 w n) h hir hE he (?m ?aLd hb) hπb;let tm:?afU<=?kK:=sX π b hir;let tm':?afU=?Ix+?J5:=rfl;let tn:?kK<=?xb:=?ev;(let hG:∀spot (s':?cJ) st,?hN->Ew n ?aN w i ?mD s.1 s.2 t π b ?o s'.1 s'.2->J9 ?aN ?aS4 st->st<w:=λspot s' st hs p hB=>by let ?TK:=ZT he0 g.sq ?Ut hir (?b1q h.st.good.mono (qs6 i) p.good) ?l dl;rcases qj3 c st with z | z;{show ?X (hB.1 c z) h0};show qc1 z hc);(let#[I,Pu,ev]:=JW (C:=?r5) (δ:=?ks) (β:=?aSn) H ?h (h.st.good.dual dl) bb ?g hπ ?VF hG (?atb ?a4y (show ?k<=r from hir) hE));apply#[I,Pu,?a9V];let ?aQG:=?b13 ev;show#[e1,?x #[hir,h.next hir e2 hs e3 e4,by rw[tm',←qp4];show e5]]};let mX:?eR:=?g;(obtain⟨h,ab,bb,h9⟩:?atQ ?xt ?eA PB/\?akK:=by rcases hJ with⟨h1,h,bb⟩|⟨_,h⟩;{let e:i=r:=ql4 h1 mX;subst e;apply#[h.wide λc hc=>by show ?aRW,?bv,A39 ?l h];{rw[qk3,Nat.zero_mul];show Ah8 bb rn hβ};rw[qk3];show bb};show h);let hsd:r+?zu=i:=qe8 mX;let row:∀c,?vp=?abg:=λc=>?VI;(let zero:?avZ ?eY (?vp=0):=?av7 (by rw[row];show ?nY i c mX hi hc));(let hd0:0<s.1 i ?eY:=by rw[row,?qh i mX hi];show ?z9 i mX hi);let ktW:=K.lt i mX hi;let bg:J9 ?aN ?aBg ?eY:=#[zero,?g,ktW];let em:?aSi=?afB+(?aj6+(r+?zu)+3):=rfl;let emo:?aSi<=?Gk:=?b8R uP (qx2 (?Pa mX hi));let tn:?xb=?kK+?Gk:=rfl;rw[hsd]at em;apply#[λ_ s'=>s'=s,#[?h,?_,λ_ _ _ hs _=>hs,?_],?_];{rintro spot _ _ rfl;show#[?eY,ktW,?g]};{rintro spot _ hs rfl hz h0;show ?X (?O3 K mX hi hs ?l) h0};rintro spot st s' hs e hB hex;let e:=e.symm;subst e;let est:=hB.one bg;subst est;(let esp:spot=i:=by rcases qj3 ?o i with z | z;{show ?X (?O3 K mX hi z (qe7 (hex z))) hB.2.1};ext d);subst esp;(let Ch6:insS ?o ?o ?sh s=s:=by (let m1:?J6 ?o ?o s=s:=by exact(?cL s.1 ?o ?o,?cL s.2 ?o ?o)=s;rw[Vd,Vd]);rw[insS,m1,?z]);rw[Ch6];let ?aWa:=h.last K mX hi (λc hc=>hc) ktW (C:=?r5) (δ:=?ks) bb (?az2 (ab k ?o hk ?l hi));let hbd:?aH8<=big:=?g;let st':=k1.st.st;(let hh:∀d,d<=?aP->∀j,?a4F->(?iN (?ip t ?o ?sh) ?o s d).1 j ?FV=?R9:=λd hd j hj=>by let#[l1,_]:=k2 d hd;let:=l1.rows j ?FV;rw[this];split;{rename_i z;(let tl:?FV<?sh:=by let:=st'.inc j ?o z.2 ?g;(let e:?b0q ?sh ?o=?sh:=?TP);ext d);rw[zero _ tl,qe1,qe5]};rfl);(let hs9:∀j,?a4F->?ath ?R9 L9:=?atH (by unfold insT;rcases qj3 j ?o with z | z;{rw[?b1];show h9 j z};let:?hP:=?g;ext er;rw[?z,?K,row,?qh j mX hi];show le9 (hηN j mX hi) ?g));(let hpos:∀j,?a4F->0<?R9:=?atH (by let:=st'.pos j ?a4J;rw[hh ?aP ?l j hj]at this;show this));apply#[?ayV #[?b91 #[st'.lt j hj2,?b6K hpos,?b6K hs9],?ok],?y #[by show qg4 mX,k1,?bv,?atH (by rw[hh ?aP ?l j ?t8];show hs9 j ?t8)]];{rcases qj3 m d with z | z;{let:=k3 d (qk1 hd) m z;rw[this];show ?jC (k2 d ?g).2 hbd};let e:m=d:=?g;subst e;show ?jC (k2 ?ae ?a94).2 hbd};{let:=h.above K mX hi hηN ab (?a8B).1;rw[?anI,qh6,qh3];let e:?kC+(?vh*?iQ+?iQ)=?kC+?vh*?iQ+η+1:=?g;rw[e];show this};rw[?anI,em];let:=(?a8B).2;rw[show ?Hl+(?amA+?afp)=?aH8 by show(?ayq qp4).symm];show this
def wW{M:Mat}{k:Nat}(hp:?b99 k (0<M x x)):?b14 k ((∀x,k<=x->x<m->M x x=0)->vF m M=Ic k ?a1U):=by (let base:∀j,?w7->vF j M=Ic j ?a1U:=λj=>by induction j with| zero=>intro _;rfl| succ j ih =>intro hj;let:=hp j ?Hh;rw[T5,?z,?ce,cV]);intro m;induction m with| zero=>intro h _;show ?dG 0 ?a5▸(by rw[?ati k])| succ m ih =>intro h hz;cases e:k=?ae;{subst e;show ?dG _ ?l};rw[T5,?A (?b8U hz m),ih ?g λx h1 h2=>hz x h1 ?g]
meta abbrev Ah2:Nat:=67000000
abbrev Pk(n:Nat)[?mc]:Prop:=?b0V n n (pT n s.2 s.1 a b)
def Pk.one(n:Nat):Pk n ?tV:=λa b ha hb=>by exact ?asc (?nB k a*?nB k b) n=_;rw[?ak ha λk _ hk=>by unfold Lat.one;rw[?kG,qg0]];unfold Lat.one;rw[?K,qe2]
def Pk.go[?hp]{T:Mat}{l:?cJ}[?ge](h:?GU)(e:∀a b,?wW=pT n l.2 (?ag w T l.1) a b):Pk n (?qB,B):=λa b ha hb=>by let:=e a (w+b);rw[←h a b ha hb];apply ?tI ?P ?_;show ?b6m (by rw[beside_hi])
def Aw8[?dU]:?aea<=1:=by unfold one;split<;>decide
private def HM{n w W b:Nat}{T P:Mat}(hT:?auj (?a1->?zH<=?aT))(hP:∀i c,?M->c<W->?asw P c ?aT):∀i c,?M->c<w+W->?asX ?abg ?aT:=?acI
private def aM{n w W b:Nat}{T P:Mat}(hT:?auj (?a1->?zH<?aT))(hP:?awR b P):?b8 n (w+W) b ?eA:=?acI
def AM{n w W b:Nat}{R:Mat}(h:?b8 n (w+W) b R):?awR b ?qB:=?avP (?b7c h ?jM ?a5D)
def Oi{n W b b':Nat}[?u4](hb:b<=b'):?ab2:=?avP (qb0 (?b7c h c hc) ?aZM)
def A05{e:Int}{D π:Nat}(h:e<=D)(hD:?Ev)(h0:0<e):e.natAbs.log2<=π/\?Sf:=by (let h1:?Sf:=by let:e.natAbs<=D:=?FE h h0;show ?m ?P hD);apply#[?_,h1];let:e.natAbs.log2<?fK:=?aFw (qc1 h1 ?GE);show qe0 ?P
def JL.done{n w r π b η β c:Nat}{M B0:Mat}[?u1][?S][?gZ](rn:?d3)(h:?ax6 n)(hc:?xb<=c):(∃G,Ct n ?aN w r n G M B0 kt hd t s.1 s.2)/\?b8 n ?aN ?pG s.1/\?b8 n n ?pG s.2:=by let e:?xb=?kK+?Gk:=rfl;rcases h with⟨h0,h,bb⟩|⟨h0,h,_,bb,_⟩;{let en:n=r:=?g;subst en;let:=?Kf (?asC (β+Fu π b n<=?pG));show ?aTt};let:=?Kf (?asC (_<=?pG));show ?aTt
universe Hb
namespace Lat
open Hb
abbrev Gq(f:?Y):?Y| 0=>0| ?r=>?Zh
def N2{f g:?Y}:?b5E (?auq (f k<=g k)) (?EA<=?UO)| 0,_=>?l| ?r,h=>qu2 (N2 ?iZ) ?rq
def Zx[?aI]:∀n:Nat,?S8<=Gq (λk=>?Ir) n| 0=>?l| ?r=>?m ?aJL (qm4 (Zx f n) _)
def bR(f:?Y)(c:Nat):∀n:Nat,Gq ?aFF n=?EA*c| 0=>by exact 0=0*c;(ext d)| ?r=>by exact Gq _ n+?hC*c=?Zh*c;rw[bR f c n,qh6]
def qB{f g:?Y}{c:Nat}:∀{n:Nat},c<n->f c=f c->(?auq (k≠c->?a3x))->g c=0->?EA=f c+?UO| 0,h,_,_,_=>?g| ?r,h,e,hk,h0=>by exact ?Zh=f c+(?UO+g n);cases z:c=n;{subst z;let:Gq f c=Gq g c:=ql4 (N2 λk hk'=>qk4 ?aYM) (N2 λk hk'=>qk4 (?aYM).symm);ext d};let:=qB (n:=n) ?aNs ?h (λk hk'=>hk k ?g) h0;let:=?b8U hk n;ext d
def fM{i:Nat}[?ge][?S](P:?aZk){a m:Nat}(h:?atr (?aKZ<=m*?ic)):?Qd:=by intro j;induction j using Nat.strongRecOn with| _ j ih =>ext aoH;let hs':?aJf<=m*?ic:=hs;ext aoB;let c:?aO6:=?m ?aes (by rw[qo6];show b);rw[qb7]at c;show ?aVh
section
variable{n w r E:Nat}{e:Int}{T P PB R RB:Mat}[?hW]
def xH[?Af]{x:?J}[?ep](hx:?ata (v c=?abm))(hv:?ata (?aFi<=e.natAbs)):?aCV:=by let rn:=g.sq.rn;let rw':=g.sq.rw;have a:?ayu ?Y:=λc k=>if ?Rm then ?Bv*?Qp else 0;let step:?avZ r (?b7m c=a c c+?aTT):=?av7 (qB ?g ?h (λk hk ne=>by exact ?b6G ?Rm 0 (if ?HV then _ else 0);cases z:?Rm;{rw[?b1,?A #[?g,z.2]]};rw[?e9,?z]) (by exact ?b61 ?bx 0;ext hZ));(let top:?avZ r (a c c<=e.natAbs+?aTT):=λc hc=>by let h1:=?aHd;let h2:=U8 (f:=?zx) (g:=λk=>if k=c then ?yw else ?OP) (n:=n+2) (p:=c) (q:=?r) ?g ?g ?g;(let e1:?abm=?yw+?aUq:=by (let:∀m,c<m->?jI->?ZE=?yw+?j ?VD m:=λm=>by induction m with| zero=>intro h;(ext d)| succ m ih =>intro h hm;exact ?KD+?aUW=?yw+(?KD+if ?bx<=m/\m<r then ?aUW else 0);cases z:c=m;{subst z;(let z1:?j ?zx c=0:=?au9 (by rw[g.low k c ?g ?a96 hk,qe1]));(let z2:?j ?VD c=0:=?au9 (by ext hZ));rw[z1,z2,?z];ext d};rw[ih ?aNs ?g];cases y:m<r;{rw[?A #[?g,y]];ext d};rw[?z,?a1S m c ?g ?wS ?a96,qe1];ext d);show ?P n ?g ?l);(let e2:?asX ?yw (e.natAbs+(?aUq).natAbs):=by let:=hv c ?g;rw[h1,e1,qw6]at this;show aY ?P);apply ?ayg ?wb e2 (qg7 (?m ?aDW ?agJ) _);{exact ?b61 c _;rw[?A #[?l,hc],qb7]};exact ?asX ?OP (if ?HV then ?Bv*?Qp else 0);cases z:?HV;{rw[?b1,?b1,qb7];let ?H1:=g.red c k (qb4 z.1) z.2;show ?aK3};ext M1;ext eq);(let all:∀d,d<=r->?b7m (r-d)+e.natAbs<=?OZ:=λd=>by induction d with| zero =>intro _;(let:?b7m (r-0)<=Gq ?dh n:=N2 λk _=>by exact(if r-0<=k/\k<r then _ else 0)<=0;ext hZ;ext eq);(let z:∀m,?aAO=0:=λm=>by induction m with| zero=>rfl| succ m ih=>exact ?aAO+0=0;ext d);rw[z]at this;rw[zc8];(ext d)| succ d ih =>ext a65;let s:=step ?a34 ?g;let t:=top ?a34 ?g;rw[?asC (?a34+1=r-d)]at s t;(let p2:?b0x ?bg=?OZ+?OZ:=?aBi);ext d);let fin:=all r ?l;rw[qk3]at fin;(let le1:?ak3<=?a7l:=N2 λk hk=>by exact _<=if ?jO/\k<r then _ else 0;rw[?A #[?a5,hk]];let:=?aKi;show ?a8q);(let le2:?b14 r (?a7l<=?aOj):=λm=>by induction m with| zero=>intro h;rw[?agl];ext eq| succ m ih =>intro h;cases z:r=?ae;{rw[z];show ?l};let:=?ce;exact _<=?aOj+a 0 m;show ?NY);let:=le2 n rn;show ?ayg le1 ?P (?Bq fin)
def XH[?LP](he:1<=e.natAbs){x:?J}[?ep](rn:?d3)(hx:?b9N (v c=?asc (x k*?xv) n))(hv:?asz ((v ?cH).natAbs<=?n0))(h0:?aCV):Gq ?CO n<=?ae9:=by (let one:?asz ((x j).natAbs<=1+?PU):=λj h1 h2=>by ext M5;let e1:=hx ?cH (?avj K.lt);rw[?ui (j:=?a0) ?g λk h3 h4=>by rw[?b1h h4 (qb4 h3) h4,qe1]]at e1;(let e2:v ?cH=?Q1+x j*?lO:=by rw[←?VT];show e1);(let e3:?asX ?Q1 (?PU*?n0):=by rw[←bR];apply ?m (Zx _ j) ?agJ;let ?H1:=?b2j k hk;exact(x k*_).natAbs<=_;rw[qb7];show ?aK3);let e4:=?avj hv;(let e5:(x j*?lO).natAbs<=(1+?PU)*?n0:=by rw[qh6,qh3];apply ?m (aY (a:=?Q1) (m:=?n0) ?_) (qg7 e3 _);show ?m (qk4 (?cv ?VU e2.symm)) e4);rw[qb7]at e5;show qw3 e5 ?Vg);(let all:∀d,?zh<=n->?aIY+1<=?Uk:=λd=>by induction d with| zero=>intro _;rw[zc8];exact Gq _ r+1<=_;(ext d)| succ d ih =>intro hd';let i1:=?ce;let o:=?b8U one ?zh;exact ?aIY+(x ?zh).natAbs+1<=_;rw[qj2];(let:2 ^ d*2*?Yl=?Uk+?Uk:=?b9);ext d);let fin:=all ?Kd (qk4 ?akJ);rw[?avc (r+?Kd=n) ?akJ]at fin;(let p1:?Ub*?Yl=?KT+?Ub:=by rw[Nat.mul_add,Nat.mul_one,←Nat.mul_assoc,←qf2];congr 3;show qo3 rn);let p2:?Ub<=?KT:=?m ?oI (ql1 _ he);(let p3:?ae9=?KT+?KT:=?aBi);ext d
def Vs.le{M:Mat}{W:Nat}[?a6r][?fn][?hr](h1:?cA)(h2:?aU):?asw M ?cH ?n0:=by ext M5;rcases qn7 i j with z | z | z;{let ?js:=?b2j i z;show ?zI a b};{rw[z,?VT];show ?l};rw[?nY i _ ?g hi (?qC j i h1 z hi)];show ?a5
def FF{π β:Nat}[?uL](he0:0<e)[?M7][?Af](g':?aY9)[?LP](K':?aAX)(s:?akf)(b1:?b2p P) : ?b8 n n ?aN7 ?qB:=λi a hi ha=>by let ?cM:=(?YA).1 i hi;(let h0:=xH g (x:=x) (v:=R i) (?av7 (by rw[hx c ?aRW];show ?b6m (by rw[?Dr]))) λc hc=>by let ?js:=g'.le c i hc hi;exact(tr R c i).natAbs<=_;show Ar.arz1 a b);let h1:=XH K (e:=e) (?rI he0) g.sq.rn hx (?av2 (K'.le hi h1 h2)) h0;exact(R i ?dY).natAbs<_;rw[hx ?dY (qo0 ha _)];apply qc1 (?ayg ?aDW (N2 (g:=λk=>?Bv*?fS) ?h4) ?_) (m:=?FA*?b7*?fS) ?_;{exact(x k*_).natAbs<=_;rw[qb7,beside_hi];show ?azj (qe7 (b1 k a hk ha))};{rw[bR];show ?axc (?m h1 ?aLZ)};rw[←qf2,←qf2];ext LU
def bP{π β:Nat}(he0:0<e)[?M7][?aoM][?as5](b2:?b2p PB) : ?b8 n n ?aN7 RB:=λi a hi ha=>by (let ex:∀k,∃y:?J,k<n->?b9N (?xv=?asS (y i*?jN) n):=λk=>by cases hk:k<n;{let ?sk:=(?YA).2 k hk;show#[y,λ_=>hy]};show(?azz hk));have y:?cK:=λk=>?aEI ?aBn;let hy:∀k,k<n->?b9N (?xv=?asS (?J1*?jN) n):=λk=>?a8h ?aBn;(let ybd:∀k,k<n->?asX ?J1 (?nR*e.natAbs):=λk hk=>by apply fM (R:=R) (B:=λi _=>?J1) (t:=t) (a:=0) (i:=n) #[λj l _=>?td j l,?aNu,?aBX,λl j _=>?y9 l j] ?bf i hi;rw[←hy k hk ?aF ?tR];let p:=?D5;cases z:j<r;{rw[?mt ?aNl];let ?rl:=g.le k ?aF hk ?aNl;show ?m (show(T k ?aF).natAbs<=e.natAbs by show Ar.arz1 q1 q2) ?Z2};let ?rl:=ker j ?g hj;rw[q2];rw[q1];show ?m (K.le hk ?g hj) (qq2 _ (?n1 he0)));(let rel:RB i a=?Vc:=by (let z:?b9N (?ahg=0):=λc hc=>by let e1:?b4W (RB l a*?sA)=?a3j:=s.pt a c;(let e2:?a3j=?b4W ?aWg:=by (let:?a3j=?asc (?b4W (?aIJ*?sA)) n:=?b9b (by rw[hy k hk c hc,←Bd];show ?b7L ?b9));ext kf;show ?b7L (by rw[Dw]));(let e3:?ahg=?b4W (RB l a*?sA+?bN*?aWg):=?b7L ?b9);rw[e3,De,Bd,e1,e2];ext d);let d:=s.dual dl;(let q:?Wj=RB i a-?Vc:=by (let:?Wj=?ast (?b4W (?a2k*(R l ?jM*RB i c))) n:=?aub (by rw[←Dw];show ?b7L ?vN));ext kf;rw[?ak hi λl hl ne=>by rw[Bd];let:=d l i hl hi;unfold pD at this;rw[this,?gj,qe1]];rw[Bd];let:=?b7c d i hi;unfold pD at this;rw[this,?K,qp9]);(let q0:?Wj=0:=?aq λc hc=>?b75 z ?jM ?a5D);ext d);rw[rel];(let m1:?asX ?Vc (n*(?nR*?b7*?fS)):=S5 λk hk=>by rw[qb7];show ?b1O (?m (ybd k hk) ?aLZ) (b2 k a hk ha));apply qc1 m1 (?b7G (qe7 (qs5 (n:=n))) ?_);rw[←qf2,←qf2,←qf2];ext LU
def En.same{W n:Nat}{R:Mat}[?S](st:En W n R t)[?ep](hv:?aAz){j:Nat}(hj:?aU)[?arE](h2:∀k,j<k->k<n->0<=?qa/\?qa<?kT):?avZ W (v c=?hU):=by let ?cM:=hv;(let hu:∀c,c<W->v c-?hU=?anU:=λc hc=>by (let e:?anU=?asc (x k*?oy+?bN*(?ZV*?oy)) n:=?SQ);rw[e,De,Bd,Eo,?nk,←?jp];ext d);(let all:?auq (?Yp=0):=λk=>by induction k using Nat.strongRecOn with| _ k ih =>intro hk;let p:=?Bl k hk;let e:=hu ?bp (?zb k hk);rw[?ak hk λi hi ne=>by ext a6X;{rw[ih i z hi,qg0]};rw[?b7c ?wP _ (?td k i ?g hi),qe1]]at e;(let small:(?qa-R j ?bp).natAbs<?Xl:=by rcases qn7 k j with z | z | z;{rw[h0 k z,?wP j _ hj (?td k j z hj)];ext d};{subst z;rw[h1];ext d};let a:=h2 k z hk;let b:=?y9 j k z hk;ext d);rw[e,qb7]at small;apply qi4 λne=>?_;let:1*?Xl<=(?Yp).natAbs*?Xl:=?axc ?g;ext d);intro c hc;let:=?azL hu;rw[?au9 (?b75 all k hk)]at this;ext d
def sU[?aoM]{j:Nat}(h1:?cA)(h2:?aU):?b9N (?hU=?awS j c):=?av7 (by apply(st.same ((?YA).2 j h2) h2 ?h4 ?_ (λk hk hn=>?_) c hc).symm;{cases z:k<r;{rw[?mt ?aME];show ?a1S j _ h1 h2 ?aME};rw[(ker k ?g (qd8 hk h2)).1];show ?nY j _ h1 h2 (?qC k j ?g hk h2)};{let ?js:=ker j h1 h2;rw[b,a];show ?VT};let ?js:=ker k ?g hn;rw[b,a];show ?wJ j k ?g hk hn)
universe e9
universe Lat
namespace Hb
open Lat
section
variable{n w b0 D π b β D2 π2 b2 β2 C1 C2:Nat}{A:Mat}
universe e9
abbrev DZ(n:Nat)(f:?aXX):Bool:=(?xV).all f
def Nv{n:Nat}{f:?aXX}(h:?ayI DZ n f):∀i,?M->?auy ?aC:=?b66 (?QU h i (?tj hi))
universe Hb
namespace Lat
open Hb
def WK:∀(k:Nat) [?uO],(∀x y,x<=k->y<=k->s x=?jW->x=y)->∃x,x<=k/\k<=s x| 0,s,_=>#[0,?l,?a5]| ?F,s,h=>by refine qs1;intro no;(let lt:∀x,x<=?F->s x<=k:=?ax9 (by rcases qj3 k (s x) with z | z;{show ?X #[x,hx,z] no};show z));(let#[x,hx,hk]:=WK k (λx=>if s x=k then s ?F else s x) λx y hx hy e=>by cases h1:s x=k;{cases h2:?jW=k;{show h x y ?g ?g (?A5 h2.symm)};rw[?im,?gp]at e;let:=h ?F y ?l ?g e;ext d};cases h2:?jW=k;{rw[?f2,?lj]at e;let:=h x ?F ?g ?l e;ext d};rw[?f2,?gp]at e;show h x y ?g ?g e);let l1:=lt x ?g;let l2:=lt ?F ?l;cases h1:s x=k;{rw[?im]at hk;let:=h x ?F ?g ?l ?g;ext d};rw[?f2]at hk;ext d
def zS{n:Nat}{P PB P':Mat}(h:?b0V n n (pT n PB P a b))(x:Nat):∀c,c<n->P' x c=?aZN:=λc hc=>by (let e:?aZN=?asV (?a2t*pT n PB P a c) n:=by rw[Ag λu _=>(?ayq Dw).symm,Cf];apply ?Qe;exact _=?a2t*?asc (?HY*P k c) n;rw[←Bd];show ?b6m (by rw[qe9]));rw[e,?ak hc λa ha ne=>by rw[?awC h a ha,?gj,qe1],?awC h c hc,?K,qp9]
universe Lat
namespace Hb
open PySem L2
abbrev Drawn(h w b0:Nat):Prop:=(h<=7/\w<=8/\b0=4)\/(h<=4/\w<=5/\b0=22)\/(h<=2/\w<=3/\b0=69)
structure Wy[?n](H:Hp)[?a6k](n w k:Nat)[?aI][?iu]:Prop where
 tup:?aw6 H tp ?aQS
 num:?asu nm ?N6
 left:?ash ?Rq ?aQo
 lback:?ash ?EJ ?aOo
 right:?ash ?HB ?aN8
 rback:?ash ?UP ?aWG
def EF.r[?E][?bF]{tp nm r1 D1 D2 b2:Addr}[?pm][?aD][?fd][?arL]:?aZR:=#[?I4,.of x.num,?a4h,?RV,?a3R,?N7]
def Wy.same[?E][?bF]{tp nm r1 D1 D2 b2:Addr}[?pm][?aD][?fd][?arR][?fi]:?aZR:=#[s.seqT ?I4,s.seq x.num,?lQ s ?a4h,?lQ s ?RV,?lQ s ?a3R,?lQ s ?N7]
section
variable[?n]
universe e9
structure Sta where
 T:?cK
 f:?cK
 l:?cK
 lb:?cK
 r:?cK
 rb:?cK
abbrev dot(x y:?J)(n:Nat):Int:=?asc (x k*y k) n
abbrev dl(a b:Nat):Int:=?aBY
structure Good(h w:Nat)(S:Sta):Prop where
 l1:∀r s,r<h->s<h->dot (S.l r) (S.lb s) h=dl r s
 l2:∀a b,a<h->b<h->?b7r S.lb S.l h
 r1:∀r s,r<w->s<w->dot (S.r r) (S.rb s) w=dl r s
 r2:∀a b,a<w->b<w->?b7r S.rb S.r w
 now:∀i j,i<h->j<w->S.f i j=dot (λb=>dot (S.l i) (λa=>S.T a b) h) (S.r j) w
abbrev unit:?cK:=?Ry
universe Hb
namespace Lat
open Hb
def sumN_fst(g:?J):∀n,?aKy=g 0+?acS| 0=>by exact ?j g 0+g 0=_;exact 0+g 0=g 0+0;(ext d)| ?r=>by exact ?aKy+g ?r=g 0+(?acS+g ?r);rw[?am4 g n,ql9]
abbrev aV(A:Mat)(j:Nat):Mat:=λr c=>A ?c1 ?aSz
def JJ:∀(n:Nat) (A:Mat),?b7X A=?aQ8| 0,A=>rfl| ?r,A=>by (let e:∀i j,i<?r->j<?r->?aRg=?aBw:=λi j _ _=>Em λr c _ _=>by exact A (if ?c1<?k then ?c1 else ?c1+1) (?aSz+1)=A (?J2+1) (if ?bx<?a0 then ?bx else ?bx+1);congr 1;{split<;>split<;>ext d};ext M2);exact ?asS (?ams*?b7X ?vl) (?r+1)=_;rw[sumN_fst,?am4 (λj=>?aZB*?b7X ?Nl)];let e0:?b7X ?aL6=?b7X (aV A 0):=rfl;rw[e0];congr 1;(let l:?asS (?b9a ?k ?k*?b7X ?aZL) ?r=?asS (?j (λj=>?b9a ?k ?k*(X8 j*A 0 ?a0*?aRg)) ?r) ?r:=?b5U (by rw[JJ n,Bd];rfl));(let r:?asU (?aIR*?b7X ?aKD) ?r=?j (λj=>?asS (?aIR*(?b9a i ?k*?aBw)) ?r) ?r:=?a5C);rw[l,r,Cf];apply Ag λj hj=>Ag ?k0;rw[?axP e,BX,BX];grind
def Ze:∀(n:Nat) (A:Mat),?b9K (λr c=>A c r)=?gt| 0,_=>rfl| ?r,A=>by rw[JJ n A];ext u7;rw[←Ze n (aV A i)];rfl
abbrev Ai0[?bu](A:Mat)(D:Nat):Prop:=∀(k:Nat) (r c:?Y),?b5V (c y<w) (λx y=>A ?iC (c y))
def OR(k:Nat)(r:?Y):?alM\/?b2K (?iC=r y):=by cases h:?alM;{show ?ju};show ?y λx y hx hy e=>qs1 λz=>h #[x,y,hx,hy,z,e]
def YI{k:Nat}(M:Mat)[?uO]{y0:Nat}(h0:y0<k):?b5s ?aVI ?aWH:=by cases z:y0=0;{subst z;congr 1;show Em λx y _ _=>by cases q:y=0;{rw[?fF,q]};rw[?dI,?dI]};rw[←Ze k ?aWH,←Ze k ?aVI];let e:=MF (A:=?jH) (show 0<k by show zc3 h0) h0 ?ahU ?Fv ?NB;(let e1:Cc (Cc ?jH 0 ?Fv) y0 ?NB=?jH:=by rw[show Cc ?jH 0 ?Fv=?jH from Jl ?jH 0];show Jl ?jH y0);(let e2:Cc (Cc ?jH 0 ?NB) y0 ?Fv=?aDX:=by funext y x;unfold Cc;cases q:y=y0;{rw[?fF,?z,?fF]};rw[?dI];cases q2:y=0;{rw[?A q2,?A q2]};rw[?s q2,?s q2,?dI]);rw[e1,e2]at e;exact ?b5s ?aDX ?jH;rw[e,qd2]
def aN[?ars]:∀(k:Nat) (r s:?Y),?b5V (?jW<?aN) ?aiq| 0,r,s,hr,hs=>h 0 r s hr λy hy=>?g| ?F,r,s,hr,hs=>by rcases OR ?F r with⟨x,y,hx,hy,ne,e⟩ | inj;ext ar1;cases z:∃y,y<?F/\w<=?jW;{let#[y0,hy,q]:=z;rw[←YI (?b9A y) s hy];(let first:∀s':?Y,w<=?yN->(∀y,y<?F->s' y<?aN)->(?D ?F ?aDT).natAbs<=D:=λs' h0 hs'=>by exact(?asS (X8 i*?b8w A (r i) ?yN*?aMB) ?F).natAbs<=D;let ih:∀i,i<?F->?asX ?aMB D:=?b66 (aN h k (λx=>r (if x<i then x else x+1)) (λy=>s' (y+1)) (?ax9 (hr _ ?eQ)) λy hy=>hs' _ (qk9 hy));(let cell:∀x,?auo (?b8w A ?iC ?yN) ?iC (?yN-w):=λx=>by unfold beside one;ext hZ);cases z:∃i,i<?F/\r i=?yN-w;{let ?aXp:=z;rw[?ak hi λx hx ne=>?b0I ne (inj x i hx hi (q.trans ?lL))];rw[qb7,qb7,bA,qh3,cell,?cF];exact 1*_<=D;rw[qh3];show ih i hi};rw[?aq λx hx=>?b0I z #[x,hx,q]];show ?a5);show ?Gu (λy=>?atI 0) q λy hy'=>hs _ (by split;ext d;ext bB)};let e:?D ?F ?aiq=?D ?F λx y=>A ?iC ?jW:=Em λx y _ hy=>?mt ?aGV;rw[e];show h ?F r s hr λy hy=>?aGV
def Ai0.dets[?ars]:?a9H:=λi hi s hs=>aN h i (λx=>x) s (?ax9 ?g) hs
def few{n k:Nat}{f:?Y}(h:?b99 k (f x<n))(inj:?b2K (f x=f y)):k<=n:=by rcases qj3 n k with z | z;{let#[x,?Q]:=WK n f λx y hx hy e=>inj x y ?g ?g e;let:=h x ?g;ext d};show z
def oK{n w B D:Nat}{A:Mat}(hA:?auj (?a1->?amY<=B))(hD:∀i,?ec->i<=w->jH i*B ^ i<=D):?aVM:=λk r c hr hc=>by rcases OR k r with⟨x,y,hx,hy,ne,e⟩ | h1;ext ar1;rcases OR k c with⟨x,y,hx,hy,ne,e⟩ | h2;{rw[←Ze,Hl (A:=λr' c'=>A (r c') (c r')) hx hy ne ?aN1];show ?a5};show ?m (yI λx y hx hy=>hA _ _ (hr x hx) (hc y hy)) (hD k (few hr h1) (few hc h2))
structure Z2(k w:Nat)(Q:Mat)(p:?Y):Prop where
 zero:∀j c,?nf->j<w->c<?gS->Q j c=0
 inc:?b2L (p i<?gS)
 lt:?b1K (?gS<w)
 pos:?b1K (0<Q j ?gS)
 red:?b2L (0<=Q i ?gS/\Q i ?gS<Q j ?gS)
def Vs.loops[?B3][?u1]{T Q:Mat}(h:Vs w ?g1 n r kt hd (?ag n T Q)):Z2 r w Q λj=>?Bd:=by (let at':∀i j,?cA->j<w->Q i ?Bd=?ag n T Q i ?cH:=λi j h1 h2=>by let:=?Sy;rw[←?a4U n T Q i ?Bd,?ass (n+?Bd=?cH) qe8 ?P]);apply#[?Kc,?aUy,?qm,?qm,?aUy];{rw[←?a4U n T Q j c];show ?d5 j _ h1 h2 (?YG h3)};{let:=?b62 ?fP i j;let:=h.ge i h1 ?aPV;ext d};{let:=?avj ?p5;let:=?Sy;ext d};{rw[?b8P at' j,?aA1];show ?NN};rw[at' i j ?g h3,at' j j ?g h3,h.head j ?g h3];show ?azD i ?g
def Z2.congr{k w:Nat}{Q Q':Mat}{p:?Y}(h:?Of)(e:∀j,?nf->Q' j=Q j):Z2 k w Q' p :=#[?aze (?b7k ?VB),?fP,?p5,?av2 (?b7k ?NN),λi j h1 h2 h3=>by rw[e i h1,?b8f e];show ?azD i h1]
universe Lat
namespace Hb
open Lat
structure sA(n w b0 D π b β D2 π2 b2 β2 C1 C2 F:Nat):Prop where
 dπ:?Ev
 nb:?a92
 wb:w*D<=?aT
 b0π:?F3
 πb:?Er
 bβ:b<β
 nβ:?VV
 st:?agD
 π9:?yq
 d2:∀i,?ec->i<=w->?a0d<=D2
 dπ2:D2<=?y4
 wb2:w*D2<=?a4T
 bπ2:b<=π2
 πb2:π2<=b2
 bβ2:b2<β2
 wβ2:w+b<β2
 st2:∀i,i<w->?aVO
 π92:?adS
 c1:?b7e π n C1
 c2:?b7e π2 w C2
 f1:?b0D F
 f2:?azg F
 fb:F<=Ah2
section
variable{n w b0 D π b β D2 π2 b2 β2 C1 C2 F:Nat}{A:Mat}
abbrev UF[?ari](m:Nat)(M:Mat)(l r:?cJ):Prop:=∃(k:Nat) (e:Int) (kl kr:?Y) (hl hr:?J),X4 n w k D π m e A M l.1 l.2 r.1 r.2 kl kr hl hr/\m<=?iV/\e<=D/\(∀j,?nf->?aU->hl j<=?b7)/\(?b1K (hr j<=?y4)) ∧ ?b8 n n ?wH l.1/\?b8 n n ?wH l.2/\?b8 w w ?ss r.1/\?b8 w w ?ss r.2/\?GU/\?a1p/\?Og
def A59[?aoZ]:?b19 ?ahE ?ahE ?aQB:=by let o0:∀b i j,?aea<=?aT:=λb i j=>?m (Aw8 i j) qo4;let hM:=HM (W:=n) hA λi c _ _=>o0 b0 i c;apply#[JF n w ?DA,AE hM ?iY ?s9 p.nb p.b0π ?aZs p.bβ p.nβ p.st ?IM ?abB,?aDl,JF.lt,λt1 s1 h1=>?_];let hR:?b2M w (c<n->((?a1g) i c:Int).natAbs<=?aT):=?avP (?m (h1.rowD ?iY ?l ?adL hc (show i<?aN by show qy6 _ hi)) p.nb);let hM2:=HM (W:=w) hR λi c _ _=>o0 b i c;let RJ:Su w (λc=>c<?g1) (?b8G n (tr s1.1)) D2:=(oK hR λi h1 h2=>p.d2 i h2 h1).dets;apply#[JF w n (?b8G n ?a1g),AE hM2 RJ p.dπ2 p.wb2 p.bπ2 ?aji p.bβ2 p.wβ2 p.st2 p.π92 (Zc w n _),?aDl,JF.lt,λt2 s2 h2=>?_];let bb1:=Xy hM ?iY ?U7 h1 ?l p.nb ?aZs p.bβ p.nβ;let bb2:=Xy hM2 RJ ?U7 h2 ?l p.wb2 ?aji p.bβ2 p.wβ2;have#[k,e,kn,kw,he,wk,hl,hr]:=mZ (L:=π) ?iY RJ h1 h2;(let up:∀{x:Int}{a q:Nat},x<=a->a<=2 ^ q->x<=2 ^ q:=λ{x a q} h1 h2=>by show qp2 h1 (by exact_mod_cast h2));let km:k*?ig<=?iV:=?axc (?a80 kn kw);show#[k*?ig,k,e,?c6,_,wk,km,he,λj _ h=>up (hl j h) ?s9,λj _ h=>up (hr j h) p.dπ2,Oi (AM bb1.1) ?ev,Oi bb1.2.1 ?ev,Oi (AM bb2.1) ?ev,Oi bb2.2.1 ?ev,(Pk.one n).go h1.good.pt,(Pk.one w).go h2.good.pt,λj c _ hj hc=>?m (h2.rowD RJ ?l ?adL hj (?avc (n+c<?g1) ?a5D)) p.wb2]
def Bf9{β A C D F B a t y:Nat}(h1:t<=C)(h2:β+A+C+D<=F)(h3:F<=B)(h4:a+y<=A):β+a+t<=B :=?m (qu2 (qg7 (?m (qg3 a y) h4) β) h1) (?ayg (qg3 _ D) h2 h3)
def tF{β A C D F a d:Nat}(h2:β+A+C+D<=F)(h4:a<=A)(h5:d<=D):β+a+d<=F :=?m (qu2 (?m (qg7 h4 β) (qg3 _ C)) h5) h2
private def A07(p:?aiU){m:Nat}{M:Mat}{l r:?cJ}(h:?aQB)(ns:¬?Yh n w M):?avd (∃m',?so/\UF n w D π β π2 β2 b2 A m' M' l' r'):=by have#[k,e,kl,kr,hl,hr,wk,hm,he,ηl,ηr,?mr,q4,v1,v2,sp]:=h;have#[lg,le]:=A05 he ?s9 ?jq;let rn:=wk.going.sq.rn;let rw':=wk.going.sq.rw;let c1:=p.c1 k rn rw';let c2:=p.c2 k rn rw';let f1:=p.f1;let f2:=p.f2;let fb:=p.fb;(let ZK:?aWl:=?L);(let sC:∀C,?rm*C+C<=?sO*C:=λC=>by rw[qh6,qh3];show qm4 ?aFK _);let s1:=sC ?iM;let s2:=sC ?l5;(let b1:?wH+Po π b π k n<=big:=?atp (Bf9 ?FD f1 fb s1) ZK);(let zO:?ss+Po π b π2 k w<=big:=?atp (Bf9 ?FD f2 fb s2) ZK);(let β1:?fK<=?wH:=by let:=p.πb;let:=p.bβ;ext d);(let β1':π2+1<=?ss:=by let:=p.πb2;let:=p.bβ2;ext d);(let tb:∀{n' w':Nat}{T:Mat}{x:Nat},?fK<=x->Gp n' w' k D e T->?b2M n' (c<w'->?zH<2 ^ x):=λ{n' w' T x} hx g i c hi hc=>by let#[g1,g2]:=?awC g.le i hi;let:?b33 ?zH:=?a7F g1 g2 le;show ?b1P ?P (qb4 hx));let bl:=aM (tb β1 ?yO) q1;apply#[JL n w k (?ag w M l.1) l.2 kl hl π b π ?wH,AA ?yO ?jq ?KP wk.dl ηl β1 b1 ?s9 le p.nb p.πb ?IM ?IM,λt=>?x #[?a5,?aeM,wk.kl.bits ηl bl q2 β1],JL.lt,λt1 u1 j1=>?_];have#[#[G1,K1],_,_]:=JL.done rn j1 c1;have#[d1,d2,d3,d4]:=Rl ?jq ?yO ?KP K1 wk.told;let z1:=FF (G:=G1) ?jq le ?yO d2 ?KP d3 ?aAG q1;let z2:=bP ?jq le ?yO ?KP ?aAG K1.st.st (?atH (K1.tab j hj ?g)) (?b20 K1.ker) wk.dl q2;let ker:?aw2 k ?a1H:=?asg wk.kr.table d2.sq.row0;let dr:Gu w n ?a1H r.2:=Jg wk.dr;(let hπ2:?fK<=?ss:=by let:=p.πb;let:=p.bπ2;ext d);let br:=aM (tb hπ2 d2) q3;apply#[JL w n k ?a1H r.2 kr hr π b π2 ?ss,AA d2 ?jq ker dr ηr β1' zO ?s9 le p.wb p.πb ?IM p.π92,λt=>?x #[?a5,?aeM,ker.bits ηr br q4 β1'],JL.lt,λt2 u2 j2=>?_];ext ha;let#[#[G2,K2],_,_]:=JL.done rw' j2 c2;let#[_,nx]:=wk.next lg K1 K2;let#[m0,wk']:=nx ns;let k2:∀x c,x<w->c<n->tr u1.1 x c=Sw w n ?wA (r.1 x) ((?aQJ) c):=?awD (Z6 (T:=u1.1) (P:=?aQJ) d4 x c hx hc);let ?Vu:=Rl ?jq d2 ker K2 k2;ext hn;let y1:=FF (G:=G2) ?jq le d2 h2 ker h3 ?a0Q q3;let y2:=bP ?jq le d2 ker ?a0Q ?aMf ?adG ?afH dr q4;(let en:∀C,?aiP*C=?rm*C+C:=λC=>by rw[show ?aiP=?rm+1 by first | show zn5 ?FD ?FD | ext d,qh6,qh3]);apply#[?uZ,by show ?aVA m0 ?XT,k,e,kl,kr,hl,hr,wk',by show qe7 (Ar.arn7 m0 hm),he,ηl,ηr,?bv,?bv,v1.go K1.st.good.pt,v2.go K2.st.good.pt,?Kc];{rw[en,←qp4];show z1};{rw[en,←qp4];show z2};{rw[en,←qp4];show y1};{rw[en,←qp4];show y2};exact(u2.1 j (n+c)).natAbs<=_;rw[sU d2 ker ?a0Q ?aMf ?adG ?afH h1 h2 (n+c) (qo0 h3 _),beside_hi];show ?b62 sp j c
abbrev YF[?ari](k d:Nat)[?aI](l r:?cJ):Prop:=?aZt/\d<=?Po/\BB n n ?xB 0 (β+?iV*?iM+d*?sI) l/\BB w w ?xB 0 (β2+?iV*?l5+d*?ig) r/\?GU/\?a1p/\?amn/\?Og
structure A82(n w D F b2:Nat)(A:Mat)(k:Nat)[?aI](l r:?cJ):Prop where
 dg:?aZt
 il:?GU
 ir:?a1p
 bl:?b8 n n F l.1/\?b8 n n F l.2
 br:?b8 w w F r.1/\?b8 w w F r.2
 lo:?amn
 sp:?Og
def Bh9[?aoZ]:EG n w A (A82 n w D F b2 A):=by apply#[?aza UF,?aza YF,A59 p hA ?iY,λm M l r h ns=>A07 p h ns,?bv,?_];{rintro m M l r ⟨k,e,kl,kr,hl,hr,wk,hm,he,ηl,ηr,q1,q2,q3,q4,v1,v2,sp⟩ hS;let dg:=wk.diag hS;let sC:∀C,?rm*C<=?iV*C:=λC=>?aFK;let s1:=sC ?iM;let s2:=sC ?l5;apply#[k,?a1U,wW ?EX _ ?aVi λx h1 h2=>dg.zero x h1 (qb0 h2 ?se) (qb0 h2 ?nF),dg.mn,dg.mw,dg,?a5,#[Oi q1 ?aTl,Oi q2 ?aTl,?aYL],#[Oi q3 ?aKu,Oi q4 ?aKu,?aYL],v1,v2,#[_,wk.kr.loops],sp]};{rintro k d i j f l r ⟨dg,hd,bl,br,v1,v2,⟨pl,lo⟩,sp⟩ hdk hij hj;let mn:=dg.mn;let mw:=dg.mw;(let lf:?b99 k ((f x).natAbs<=?b7):=?ax9 (by let h1:=dg.le hx;let h2:=?EX x hx;show ?m (?FE h1 h2) ?s9));(let kk:?Po<=?aI4:=by let h:k<=?ef:=?a80 mn mw;let:=qh0 h h;ext d);let f1:=p.f1;let f2:=p.f2;let fb:=p.fb;(let ZK:?aWl:=?L);(let dm:∀X,d*X+X<=?oZ*X:=λX=>by let:=qc7 X (?ass (?bg<=?oZ) qh2 (?m hd kk));rw[qh6,qh3]at this;show this);let d1:=dm ?sI;let d2:=dm ?ig;let cm:?aF9:=?aOL;let e1:=cm ?iM;let e2:=cm ?l5;let b1:BB n n ?xB 0 (β+?iV*?iM+d*?sI+(1+1)) (?lI i j 1 l):=bl.add ?g ?g (k:=1) (c:=1) ?L;let lt1:∀{x:Nat},?TF->x<?q3:=λh=>qc1 h ?GE;apply#[#[#[?am7,le9 ?Bk ?aP9],#[by let:=?ayF ?EX;ext d,le9 ?v4 ?aP9],#[?jC bl (?atp (tF f1 e1 (?m ?ev d1)) ?aIL),?jC b1 ?g],?jC br (?atp (tF f2 e2 (?m ?ev d2)) ?aIL)],λXX=>#[dg,?g,bl.mono ?GO,br.mono ?GO,v1,v2,#[pl,lo],sp],λg a b' sh=>#[?_,?g,?bv,?bv,#[pl,lo.congr ?xr],λx c h1 h2 h3=>?_]];{let:=dg.share hij hj sh;unfold shL ZY shF addS blendS;simp only[qs7];show this};{(let lb:?ath ?aVV ?fR:=by apply qc1 ?SR ?_;rw[qb7];apply qc1 (qh0 ?aQj ?v4) ?_;rw[←qf2];ext LU);let zO:=b1.add (p:=j) (q:=i) ?g ?g (k:=-?aVV) (c:=?Vo) (by rw[qd2];show lb);apply zO.mono ?_;rw[qh6,qh3];ext d};{let:=br.blend (p:=i) (q:=j) ?g ?g ?g (x:=a) (y:=b') (z:=?F2) (u:=?lM) (c:=?fK) (lt1 (?m sh.la ?v4)) (lt1 ?aQj) (lt1 (?b3L ?SR ?v4)) (lt1 (?m ?SR ?Bk));apply this.mono ?_;rw[qh6,qh3];ext d};{intro x y hx hy;rw[←?b12 v1];show(nY _ _ ?aKS ?aFI ?g _ x y).trans (nY _ _ ?aFI ?aKS ?g _ x y)};{intro x y hx hy;rw[←?b12 v2];show lC _ _ (?ayX i) (?ayX j) ?g (?alh (π:=π) ?am7 ?Bk ?v4).one x y};{show ?ahP};let e:(ZY i j g a b' f r).1 x=r.1 x:=?ahP;rw[e];show ?b62 sp x c};rintro k d f l r ⟨dg,hd,bl,br,v1,v2,lo,sp⟩;(let h:k<=?ef:=?aVi);let kk:=qh0 h h;let f1:=p.f1;let f2:=p.f2;let dm:∀X,d*X<=?oZ*X:=λX=>qc7 X ?g;let cm:?aF9:=?aOL;let d1:=dm ?sI;let d2:=dm ?ig;let e1:=cm ?iM;let e2:=cm ?l5;show#[dg,v1,v2,#[(?b6N d1).1,(?b6N d1).2.1],#[(?b6M d2).1,(?b6M d2).2.1],lo,sp]
universe e9
universe Hb
namespace Lat
open Hb
abbrev mulV(w:Nat)(A:Mat)(x:?J):?J:=λi=>?asU (A i j*x j) w
def dY[?bu](A:Mat)(p x:?J):?atN p x=?asV (p a*?df w A x a) n:=rfl
def yP{w:Nat}{Q QB:Mat}(h:?b0V w w (pT w QB Q a b))(x:?J):∀c,?a1->x c=?b9l (λy=>?b4v x y y):=zS (P':=λ_=>x) h 0
abbrev numAt[?aI](k i:Nat):Int:=if i<k then ?aC else 0
section
variable{n w k E:Nat}[?MK][?aD]
universe e9
universe Lat
namespace Hb
open PySem L2
section
variable[?n]
universe e9
section
variable[?n]
universe e9
universe Hb
namespace Lat
open Hb
section
variable{n w k E:Nat}[?MK][?aD]
def pS[?gb](hl:?aLO)(hu:?b99 n (?aEi=0)):∀a,a<n->u a=0:=λb hb=>by (let e:?aJz=u b:=by (let:?aJz=?b9I (λx=>?asV (u a*(PB x b*P x a)) n):=Ag λx _=>?aJs);ext kf;rw[?ak hb λa ha ne=>by rw[Bd];let:=hl b a hb ha;unfold pT at this;rw[this,?s λq=>ne ?JT,qe1]];rw[Bd];let:=hl b b hb hb;unfold pT at this;rw[this,?K,qp9]);rw[←e];show ?ayi hu
def Iz.spare(h:?aTh)(hl:?aLO){y:Nat}(h1:k<=y)(h2:y<w):?b0S ?a0K :=pS hl λx hx=>by let:=?IC x y hx h2;rw[dY]at this;rw[this];cases z:x=y;{rw[?b1,z];show ?d5 y h1 ?g h2};ext hi
def Iz.madeS(h:?aTh)(hr:?a50)[?ep](hv:?b0S v):∀c,?a1->v c=?j ?aJo ?xj:=λc hc=>by let mw:=h.mw;let mn:=h.mn;(let z:∀y,y<k->?SN=0:=λy hy=>by (let e1:?aXr=0:=by rw[dY];show ?ayi hv);(let e2:?aXr=f y*?SN:=by rw[v5 (p':=P y) (q':=λc=>?b9l (λu=>?b4v v u u)) ?ib (?avr (yP hr v b hb)),Qp,jP];rw[?ak (?ayX y) λu hu ne=>by rw[←Qp,?IC y u ?g hu,?s λq=>ne ?JT,qe1]];rw[←Qp,?IC y y ?g ?g,?K,qf8]);rw[e2]at e1;let p:=?bn y hy;rcases ?wm e1 with q | q;{ext d};show q);rw[yP hr v c hc];(let sp:∀d,?IQ<=w->?aIr=?j ?aJo d:=λd=>by induction d with| zero=>intro _;show ?aq λy hy=>?b75 z y hy| succ d ih =>ext a65;exact ?aIr+?b4v v ?IQ ?IQ=_;rw[i1];rfl);let:=sp ?xj (qk4 ?anK);rw[?avc (k+?xj=w) ?anK]at this;show this
universe e9
section
variable{n w m i:Nat}{d v:?J}{A:Mat}
universe e9
universe Lat
namespace Hb
open Lat
abbrev WQ(n w b0 π b β π2 b2 β2 C1 C2 F:Nat):Bool :=(?w (n*?b7<=?aT/\w*?b7<=?aT/\?F3/\?Er/\b<β/\?VV)&&(?b1a n ?Mv&&(?w ?yq && (?b1a ?amQ (?a0d<=?y4)&&(?w (w*?y4<=?a4T/\b<=π2/\π2<=b2/\b2<β2/\w+b<β2)&&(?b1a w ?aVO&&(?w ?adS && (DZ ?amQ (λr=>?w (?az7 π n<=C1/\?az7 π2 w<=C2)) && ?w (?b0D F/\?azg F/\F<=Ah2)))))))))
def wQ{n w b0 π b β π2 b2 β2 C1 C2 F:Nat}(h:WQ n w b0 π b β π2 b2 β2 C1 C2 F=true):?awz ?b7 ?y4:=by unfold WQ at h;simp only[qc2,qq9]at h;have#[#[?mj,h5,h6,h7],h8,h9,k1,#[k2,k3,k4,k5,k6],k7,k8,k9,m1,m2,m3]:=h;show#[?l,?mj,h5,h6,h7,?b0X h8,h9,λi h1 h2=>?b2Y k1 i,?l,k2,k3,k4,k5,k6,?b0X k7,k8,λr hr hw=>(?b2Y k9 r:_/\_).1,λr hr hw=>(?b2Y k9 r:_/\_).2,m1,m2,m3]
universe Hb
namespace Lat
open Hb
abbrev tO:?Y->?Y| _,0=>1| B,?r=>?Td
def AF:∀[?Mi]{B:?Y},(?auX n (?Tk<=B r))->?X5<=jH n*?Mr| 0,A,B,_=>by exact ?Qb<=1*1;decide| ?r,A,B,h=>by rw[JJ];(let e:?asX ?aQ8 (?b8E n):=S5 λj hj=>by (let d:=AF (n:=n) (A:=?Nl) (B:=?a33) (?asd (by unfold aV;show h ?c1 _ ?a0V ?eQ)));rw[qb7,qb7];(let s:(X8 j).natAbs=1:=?aJH);rw[s,qh3];show qh0 (h 0 j ?g hj) d);apply ?m e ?wb;exact ?b8E n=?IF*?Td;grind
def Aa9(B:?Y):∀n,tO (λr=>2*B r) n=?jv*?Mr:=λn=>by induction n generalizing B with| zero=>rfl| succ n ih =>exact 2*B 0*tO (λr=>2*B ?c1) n=?FA*?Td;rw[ih ?a33,qj2];grind
def Ab0{B:?Y}:?b5E (∀r,r<n->0<B r) (0<?Mr):=λ{n} h=>by induction n generalizing B with| zero=>show Nat.one_pos| succ n ih=>show Nat.mul_pos ?aN0 (ih λr hr=>h ?c1 ?a0V)
def wJ[?aD]:∀{n:Nat},(?m0).natAbs=tO (λr=>(f r).natAbs) n:=λ{n}=>by induction n generalizing f with| zero=>rfl| succ n ih =>(let e:∀m,?a7J=f 0*?aLu:=λm=>by induction m with| zero=>exact 1*f 0=f 0*1;(ext d)| succ m im =>exact ?a7J*f ?ae=f 0*(?aLu*f ?ae);rw[im,qe9]);rw[e n,qb7,ih];rfl
section
variable[?arm]
def Z2.stair{k w:Nat}{Q:Mat}{p:?Y}(h:?Of):En w ?xj ?aJG λi=>p ?eN :=#[?atH (?p5 ?jn ?g ?qz),?axB ?fP,?b50 (?d5 ?jn c ?g ?qz hc),?atH (?bn ?jn ?g ?qz),?axB ?jk]
def kC(st:?a0l)(hB:?a9S){r c:Nat}(hr:r<z)(hc:?a1):B ?t0 c=?asc (L k ?t0*?f6) ?c1:=by rw[hB _ _ (?zb r hr) hc];show ?ui ?g λk h1 h2=>by rw[?wP k _ h2 (?td r k ?i1 h2),qg0]
def PJ[?a5M]{i c:Nat}(hi:i<z)(hc:?a1):?zH<=?nR*2:=by apply fM (R:=L) (B:=T) (t:=p) (a:=c) (i:=z) #[λj k _=>?td j k,?aNu,?aBX,λk j _=>?y9 k j] ?bf i hi;rw[show ?asc (?f6*L k ?gS) z=B ?gS c by rw[hB _ _ ?tR hc];show ?a32];let:=?D5;show ?m (b2 _ _ ?tR hc) ?a8q
def UZ[?a5M]:∀i,i<=z->∀s:?Y,(∀l,l<i->?cP<w+z)->?asw ?D ?aNU ?aju:=λi hi s hs=>by have Z:Mat:=?aNU;have V:Mat:=λr l=>?aS9;let e:?D i V=?b5i L ?gS i*?aUs:=iB (T:=λr j=>?a1Z) (λr c _ _=>rfl) i ?l;(let e2:?aUs=?D i Z:=Em λr c hr _=>by exact ?b4S i ?oc;rw[?Jv]);rw[e2]at e;(let vle:∀r l,r<i->l<i->?asX ?zX (2*?Qg):=λr l hr hl=>by let pr:=?aW2;cases c1:?cP<w;{(let:?zX=B ?t0 ?cP:=by rw[kC st hB ?g c1];show ?awm (by exact ?a1Z*?ag6=_;rw[?mt c1]));rw[this];show ?m (b2 _ _ (?zb r ?g) c1) ?g};(let zv:∀j,?auo (Z j l) j ?ri:=λj=>by exact ?ag6=_;unfold beside;rw[?s c1];rfl);cases c2:?ri<?c1;{(let:?zX=L ?ri ?t0:=by exact ?aS9=_;rw[?ak c2 λj _ ne=>by rw[zv,?gj,qe1],zv,?K,qp9]);rw[this];rcases qj3 ?ri r with q | q;{let ?H1:=?y9 ?ri r q ?g;ext d};rw[?asC (?ri=r)];ext d};(let:?zX=0:=?aq λj hj=>by rw[zv,?z,qe1]);rw[this];show ?a5);let big:=AF (B:=λr=>2*?Qg) vle;rw[e,qb7,wJ,Aa9]at big;(let pos:0<?aQX:=Ab0 λr hr=>by let:=?aW2;show ?alU);apply qw8 (c:=?aQX) ?_ ?H;apply ?m big ?wb;grind
universe e9
structure Lev(q m z:Nat)(D L G:Mat):Prop where
 st:∃p,?a0l
 du:∀i j,i<z->j<z->?ast (G i c*L j c) m=?lm
 cyc:∀i,i<z->?auM (L i)
 all:∀v:?J,(?auM v)->∀c,c<m->v c=?asS (?b7R (?rd*v a)*L i c) z
abbrev gT(m:Nat)(G B:Mat):Mat:=λi c=>?aeq
section
variable{q m z w:Nat}{D L G B:Mat}
def Lev.first(m:Nat)(D:Mat):Lev 0 m m D one one:=by (let d:∀i j,i<m->j<m->?ast (one i c*?BC) m=?lm:=?b4Z (by rw[?ak hi λk _ ne=>?aVc];unfold one;rw[?K,qe2];cases z:i=j;ext ape));apply#[#[λi=>i,λj hj=>hj,λj k h _=>h,λj c _ hc=>?z,λj _=>by exact 0<one j j;unfold one;rw[?K];decide,λk j hk _=>?_],d,λi _ x hx=>?g,λv _ c hc=>?_];{exact 0<=one k j/\one k j<one j j;unfold one;rw[?z,?K];decide};rw[?ak hc λi hi ne=>by exact _*one i c=0;unfold one;rw[?gj,qe1]];exact v c=?asV (one c a*v a) m*one c c;rw[?ak hc λa _ ne=>?aVc];unfold one;rw[?K,qe2,qp9]
def Lev.told[?a5X]:∀a c,a<m->?a1->?pH=?asS (L i a*?b9V i) z:=λa c ha hc=>by rw[h.all ?akv (?azL tw) a ha];show ?b5U ?p0
def A53(m w:Nat)(G B:Mat)(v:?J)(i:Nat):?Oe=?asV (?rd*?df w B v a) m:=by (let e1:?b9m ?Oe (λc=>?asV (?rd*?pH*v c) m):=?aub (by exact ?aeq*v c=_;rw[←Dw]));rw[e1,Cf];show Ag λa _=>by exact ?ast (?rd*?pH*v c) w=?rd*?ast (?pH*v c) w;ext a62
def Lev.next{E k:Nat}[?aD]{P PB Q QB:Mat}{p:?Y}[?a5X][?a5u](il:?TQ)(ir:?a50)(lo:?Of) : Lev m w ?xj B ?aJG λi=>QB ?eN:=by let tl:=?JN tw;let mw:=dg.mw;apply#[#[_,lo.stair],?b4Z ?_,λi hi x hx=>?_,λv hv c hc=>?_];{let:=dg.dr ?jn ?eN ?qz ?Ql;unfold pD at this;rw[show ?ast (?aKr*Q ?jn c) w=?ast (Q ?jn (0+c)*?aKr) w from ?aub (by rw[qu4,qf8]),this];cases z:i=j;{rw[?b1,?bD]};rw[?e9,?z]};{let t0:=dg.spare il (y:=?eN) ?g ?Ql;(let e:?aPl=?asV (L a x*?b9h ?Xp a) z:=by (let e1:?b9m ?aPl (λc=>?asV (L a x*?aI0*?a3A) z):=?b56 x hx);rw[e1,Cf];show Ag λa _=>?b9H (L a x) ?aI0 ?a3A);rw[e];show ?ayj t0};(let t0:∀i,i<z->?Oe=0:=λi _=>by rw[A53];show ?ayj hv);rw[dg.madeS ir t0 c hc];show ?b5U (by rw[show ?aL7=?asV (?aXU*v a) w from ?atY ?p0])
universe e9
section
variable[?arT][?aD]
abbrev turnL(z:Nat)(P L:Mat):Mat:=λi c=>?aR2
def VW(z m:Nat)(D P L:Mat)(i x:Nat):?aSk=?asU (?l0*?df m D (L j) x) z:=by (let e:?aSk=?j (λc=>?asU (?l0*(D x c*L j c)) z) m:=?aub (by exact D x c*?aR2=_;rw[←Bd];show Ag λj _=>?b9));rw[e,Cf];show ?a5C
def Lev.round(h:?O0)(i:Nat):?auM (?o8 z PB L i):=?ax9 (by rw[VW];show ?aq λj hj=>by rw[h.cyc j hj x hx,qe1])
def Lev.gauge(h:?O0)(dl:Gu z 0 P PB)[?fn](hi:i<z)(hj:j<z):?RH=?lm:=by (let e1:?RH=?asV (?II*?Df) z:=by (let:?RH=?j (λc=>?asV (?II*?aR0) z) m:=Ag λc _=>by exact ?asV (?II*?q2) z*?Vs=_;rw[←Dw];show ?atY ?vN);ext kf;show ?atY ?va);(let e2:∀a,a<z->?Df=PB j a:=λa ha=>by (let:?Df=?b3x (?a4V*?ast ?aSV m):=by (let:?Df=?ast (?b3x (?a4V*?aSV)) m:=?aub (by exact ?q2*?b3x (?a4V*L b c)=_;rw[←Bd];show ?a23));ext kf;show ?b7M ?va);rw[this,?ak ha λb hb ne=>by rw[h.du a b ha hb,?O8,qe1],h.du a a ha ha,?K,qp9]);rw[e1,?b0N e2];let:=?axP dl;ext aq4
def Lev.filling[?a5X][?a5u](il:?TQ){i:Nat}(hi:i<k):∀a,a<m->?a38=?aC*?o8 z PB L i a:=λa ha=>by let mn:=dg.mn;let mw:=dg.mw;let tl:=?JN tw;(let tq:?b99 z (?b9h ?a3p x=?aC*PB i x):=λx hx=>by (let e:∀y,y<z->?aj9=0:=λy hy=>by (let e1:?aj9=?b3x (P y b*?Vj+-?aC*?aLf):=?a23);(let e2:?auo (?b3x ?aLf) y i:=by let:=dg.dl y i hy ?g;ext aq4);rw[e1,De,Bd,e2,←dY,dg.diag y i hy ?g];cases q:y=i;{rw[?fF,?fF,q];ext d};rw[?dI,?dI];ext d);let:=pS (u:=λb=>?aYF) il e x hx;exact _=_;ext d);(let e1:?a38=?b3x (L b a*?Vj):=by (let:?a38=?ast (?b3x (L b a*?aVw*Q i c)) w:=?b56 a ha);ext kf;show ?b7M (?b9H (L b a) ?aVw (Q i c)));rw[e1];exact _=?aC*?asU (PB i j*L j a) z;rw[←Bd];show Ag λb hb=>by rw[tq b hb];grind
universe e9
universe Lat
namespace Hb
open Lat
abbrev kB(n:Nat):Nat:=?akR ?Tg+1
abbrev xG(f:?Y):?Y| 0=>f 0| ?r=>max ?SD (xG f n)
abbrev kP(b i:Nat):Nat:=max b (?akR ?a0d+1)
abbrev kS[?bu]:Nat:=?UG+6
abbrev bookF:Nat:=26500000
abbrev Bs5[?bu]:Bool:=WQ n w ?r ?qb ?Jm (?qb+n+8) ?UG ?agM (?agM+w+2) (?azQ ?qb n) (?azQ ?UG w) ?eW
def Ah0:?auy (DZ 41 λn=>DZ (41-n) λw=>Bs5 n w):=?cX
def A60:∀{i n:Nat},?ec->?aju<=?Tg:=λ{i n} h=>by induction n with| zero=>rw[?ajB];ext eq| succ n ih =>cases e:i=?r;{rw[e];show ?l};apply ?m ?ce ?_;exact ?Tg<=?IF*?FA;show qh0 (qq2 _ ?g) ?oI
def uZ[?arm][?a5M](h:z+w<=40):EG z w T (A82 z w ?a9i ?eW (kS z w) T):=by let P:=wQ (Nv (Nv Ah0 z ?g) w ?g);apply Bh9 P (?avP ?_) λi hi s hs=>?_;{apply ?m (PJ st hB b2 hi hc) ?_;rw[←qj2];show ?oI};apply ?ayg (UZ st hB b2 i hi s hs) (A60 hi) ?_;show qe7 Nat.lt_log2_self
universe Hb
namespace Hb
open PySem L2
meta abbrev Ms:=?i4
abbrev nd(ms:Ms):Prop:=(?bY (·.1)).Nodup
abbrev nz(ms:Ms):Prop:=∀p∈ms,?acT
abbrev Kv(ms:Ms)(k n:Int):Ms:=if ?Ku=0 then ?jR else ?rv ms k ?Ku
abbrev Ff(ms ns:Ms):Ms:=ns.foldl (λacc p=>?b0R Kv acc) ms
abbrev Iq(n:Int)(ms:Ms):Ms:=if n=0 then [] else ?aRm
abbrev Dd(ms:Ms):Ms:=?b11 ?amC ?acT
abbrev wI(ns ms:Ms):Int:=(?ko λp=>p.2*?RQ).sum
def Mx[?MR](h:?Q9):?fQ∈ms:=by induction ms with| nil=>simp[lookI]at h| cons p ms ih =>rw[Ep]at h;ext kb;{rw[?cF]at h;(let:p=?fQ:=by cases p;simp_all);rw[this];show ?c2};rw[?iE]at h;show ?ay1 (ih h)
def TX[?Mg](h:k ∉ ?bY (·.1)):?ajS:=by cases e:?gl with| none=>rfl| some v=>show ?X (qm6 (f:=(·.1)) ?Mt) h
def Ef[?dq][?Mj](hp:p∈ms):?cz ms ?v=?qW:=by induction ms with| nil=>cases hp| cons q ms ih =>rw[Ep];ext tt;rcases ?iS hp with rfl | hp;{rw[?K]};let:¬q.1=?v:=λz=>h.1 (by rw[z];show qm6 (f:=(·.1)) hp);rw[?Ee];show ih h.2 hp
def Fp[?Mg](h:k ∉ ?bY (·.1)):?bd=0:=by unfold An;rw[TX h];rfl
def C3[?Mc](ms:Ms)(k:Int):?b0k ?hS=if ?d8 then p.2 else ?bd:=by unfold An;rw[Ep];ext ho
def lR[?Ai](k:Int):?gl=if ?bd=0 then none else ?i ?bd:=by unfold An;cases e:?gl with| none=>rfl| some v =>let:=h _ ?Mt;exact ?aW=if v=0 then none else ?aW;rw[?Ee]
def IZ:∀(l1 l2:?O),l1.Nodup->(∀x∈l1,x∈l2)->l1.length<=l2.length| [],l2,_,_=>?a5| x::l1,l2,h,hs=>by rw[qh5]at h;let hx:=hs x ?c2;(let:=IZ l1 (l2.erase x) h.2 λy hy=>by let ne:y≠x:=λz=>h.1 (z▸hy);show(List.mem_erase_of_ne ne).mpr (hs y ?aiS));let e:=List.length_erase_of_mem hx;let:0<l2.length:=List.length_pos_of_mem hx;rw[qd5];ext d
def WE[?as2](h:∀k,?gl=?Ot):?aP6:=by (let sub:∀{as bs:Ms},nd as->(∀k,?cz as k=?cz bs k)->∀x∈as.map (·.1),x∈?Zs (·.1):=λ{as bs} ha hh x hx=>by let ?GX:=?cD hx;let e:=Ef ha hp;rw[hh]at e;show qm6 (f:=(·.1)) ?Mt);let l1:=IZ _ _ h1 (sub h1 h);let l2:=IZ _ _ h2 (sub h2 λk=>(h k).symm);rw[qa3,qa3]at l1 l2;unfold sameC;rw[qc2];apply#[?iK,?ZB λp hp=>qf0 ?_];rw[←h];show Ef h1 hp
def c6[?as2](z1:?J8)(z2:nz ns)(h:∀k,?bd=?b0k ns):?aP6 :=WE h1 h2 λk=>by rw[lR z1,lR z2,h]
def Ad9[?dq](k:Int):nd ?jR:=by unfold nd Kf at *;show ?aMI
def Ad3[?Ai](k:Int):nz ?jR:=?awc (h p ?Yd)
def bJ[?Mg]:?a8H↔k∈?bY (·.1):=by rw[qs2,qd1];constructor;{rintro ⟨p,hp,e⟩;show ?aPd};rintro ⟨p,hp,e⟩;show ?aPd
private def oH[?dq](k v:Int):nd ?gg:=by unfold nd putI at *;split;{rw[qk7];(let e:((?b3A ?v) ∘ ?b3A ?aXS)=(·.1):=by funext p;simp only[Function.comp];ext ho);rw[e];show h};rename_i hn;rw[bJ]at hn;rw[qb2,qx4];apply#[h,?G,λa ha b hb e=>?_];(let:b=k:=?e1);show hn (by rw[←this,←e];show ha)
def qS[?MR][?Mj](hp:p∈?gg):p∈ms\/p=?fQ:=by unfold putI at hp;split at hp;{let ?a9t:=?kP;cases z:?zF;{rw[?b1]at e;right;rw[←e,z]};rw[?e9]at e;left;rw[←e];show hq};ext a6K;{show ?ju};show ?y ?lu
def iZ(ms:Ms)(k v:Int):?asa ?gg ?aAC:=by unfold putI;split;{rw[qa3];ext d};rw[qb6];simp
def xK(ms:Ms)(k:Int):?asa ?jR ms.length:=qf9 ..
def Ax2[?Ai]{k v:Int}(hv:v≠0):nz ?gg:=?awc (by rcases qS hp with q | q;{show h p q};rw[q];show hv)
def OI[?dq](k n:Int):nd ?nG:=by unfold Kv;split;show Ad9 h k;show oH h k _
private def WW[?Ai](k n:Int):nz ?nG:=by unfold Kv;split;{show Ad3 h k};rename_i q;show Ax2 h q
def jA(ms:Ms)(k n:Int):?asa ?nG ?aAC:=by unfold Kv;split;{let:=xK ms k;ext d};show iZ ..
private def RD(ms:Ms)(k n j:Int):An ?nG j=if j=k then ?yI+n else ?yI:=by unfold Kv;split;{rename_i q;unfold An at *;rw[oO];cases e:j=k;{subst e;simp;show q.symm};simp[e]};unfold An at *;rw[gA];cases e:j=k;{subst e;simp};simp[e]
def iK:∀(ns ms:Ms),?fv->?J8->?uU->nd ?i6/\nz ?i6/\?aEH/\∀j,An ?i6 j=?yI+An ns j| [],ms,h1,h2,_=>#[?Q,?aNy,λj=>by simp[Ff,An,lookI]]| p::ns,ms,h1,h2,h3=>by unfold nd at h3;rw[qd7,qh5]at h3;let#[r1,r2,r3,r4]:=iK ns ?P3 (OI h1 _ _) (WW h2 _ _) h3.2;apply#[r1,r2,?_,λj=>?_];{let:=?agr;exact ?asa ?G3 _;rw[qd5];ext d};exact An ?G3 j=_;rw[r4,RD,C3];cases e:j=?v;{let:=Fp h3.1;subst e;simp[this]};let e':¬?v=j:=?rC;simp[e,e']
def Bj4[?dq]:nd ?mI:=by unfold nd Dd at *;show ?aMI
def OV[?dq](k:Int):?WC=?bd:=by induction ms with| nil=>rfl| cons p ms ih =>ext tt;unfold Dd;rw[ql8,C3];cases e:p.2=0;{rw[?s ?cw];exact ?WC=_;rw[ih h.2];cases q:?d8;{rw[?fF,e,←q,Fp h.1]};rw[?dI]};rw[?A ?cw,C3];exact(if ?d8 then p.2 else ?WC)=_;rw[ih h.2]
abbrev zK(ms:Ms):Prop:=∀p∈ms,?qD/\?v<40
def oG[?dq](n:Int):nd ?aRm:=by unfold nd at *;rw[qk7];show h
def LU:∀(ns ms:Ms),?aEH| [],ms=>?aNy| p::ns,ms=>by let h1:=LU ns ?P3;let h2:=?agr;exact ?asa ?G3 _;rw[qd5];ext d
def tP{ms ns:Ms}{i:Nat}[?uE](h:ns[i]?=?e2):Ff ms ?Eo=Kv (Ff ms ?Qo) q.1 q.2:=by unfold Ff;rw[qr0,h,qr1];rfl
def VY[?dq]{i:Nat}[?uE](hq:?yf=?e2):q.1 ∉ (?xG).map (·.1):=by intro hm;let ?a9I:=?zZ;let ?F6:=List.mem_take_iff_getElem.mp hp;let hij:?al:=qb0 hj ?se;let hi:i<ms.length:=(?bi hq).1;unfold nd List.Nodup at h;rw[qx3,qr7]at h;let:=h j i (qd8 hij hi) hi hij;rw[?tA]at hq;let hq':=qb1 hq;show ?P (by rw[ej,hq',e])
def gZ{ms:Ms}{i:Nat}[?uE](hq:?yf=?e2):Dd (ms.take ?k)=if q.2=0 then Dd ?xG else Dd ?xG++[q]:=by unfold Dd;rw[qr0,hq,qj1];cases e:q.2=0<;>simp[e]
def Ag4[?Mg](h:k ∉ ?bY (·.1)):k ∉ (?mI).map (·.1):=λhm=>by let ?a9I:=?zZ;show h (?KN #[p,?Yd,e])
def qT(ms:Ms):?asa ?mI ms.length:=qf9 ..
section
variable[?mn][?av][?MR]
def Rz[?a6f]:?ac2:=?axS k
def R6[?a6f](h:?Q9):?rj H a ?f5 (?i ?aBL):=?x #[?gB,?nH,rd,?h,by rw[jO,h];rfl]
def BH(h:?oo)(hl:?ahq):A87 H a ?f5 ?aBL (?auf a (.dK ?a7b)):=by rw[←pI];show ?x #[?gB,?nH,h,?h,by unfold cK;rw[qa3];show small hl,?h]
def Ku{i:Nat}{kk:Key}{x:V}(h:?avL ?gB (kk,x)):∃p:?ds,?yf=?kJ/\kk=?x ?v/\x=?t p.2:=by unfold cK at h;rw[qa6]at h;cases e:?yf with| none=>rw[e]at h;cases h| some p =>rw[e]at h;let:=?B9;simp only[Prod.mk.injEq]at this;show#[p,?h,this.1.symm,this.2.symm]
def J7:?atm ?gB ms.length:=by unfold cK;rw[qa3]
def At1{o:HO}(h:?su):?sG=H:=by funext b;cases e:b=a;{rw[e,Ab,h]};rw[Aj e]
def dH{x:HO}[?dW](h:?auL (?b7q x) D):?bl/\D≠a:=by
 let n:D≠a:=λz=>by rw[z,Ab]at h;cases h
 rw[Aj n]at h;show#[h,n]
def qH{o:HO}{b:Addr}(s:?l1)(h:Rd H b o):Rd H1 b o:=by rcases h with h|⟨q,h⟩;{show ?x ?aWB};show ?y #[q,?aWB]
universe e9
def put_new[?MR](h:k ∉ ?bY (·.1)):?gg=ms++[?fQ]:=by unfold putI;rw[?b8D h bJ.mp]
abbrev OF(H:Hp)(ms:Ms)(Q:?lr):Prop:=?b3g ?XL
section
variable[?n]
abbrev U9[?d0]:Sp:=?asE (Sx λ ?cp ?hx (k n:Int)=>Bv (?b6Z ?f5 ?fD) ?oo ?ahq (Q ?as (?b7q (?b9j ?nG))))
abbrev aZ[?d0]:Sp:=?asE (Sx λ ?fJ ?a4p=>Ey ?iU ?t3 ?ahL ?om (?b5x 1000) (?b6k ?i6))
abbrev Ye[?d0]:Sp:=?asE (Kz λ ?aw ?cp ?hx=>Di (vs=[?fD,?R]) ?oo ?om ((∀p∈ms,?cN n p.2)) (?b6k ?vj))
abbrev KC[?d0]:Sp:=?asE (Sx λ ?fJ ?a4p=>Lj ?iU ?oo ?QS ?KC ?om ((∀p∈ms,?cN p.2 (An ns ?v))) (?b3o (?t (wI ms ns))))
universe e9
universe Hb
namespace Hb
abbrev NH(t f:Int):Int:=if f=t then ?cG else if f=?cG then t else f
abbrev Kc(ys:LLInt)(t:Nat):LLInt:=?DT t++[?DK,?a3M]++ys.drop ?wU
abbrev Yc(ys:LLInt)(t:Nat):LLInt:=?acW ?aED
abbrev nH(t k:Nat):Nat:=if k=t then ?cG else if k=?cG then t else k
def qA(t k:Nat):NH ?xN ?aL=(?DL:Nat):=by unfold NH nH;cases a:k=t;{rw[?bD,?GC];ext d};cases b:k=?cG;{rw[?z,?bD,?Hg,?A b]};rw[?z,?z,?Hg,?uT]
def ZV(t k:Nat):nH t ?DL=k:=by unfold nH;(repeat' split);all_goals ext d
def tE[?LW](k:Nat):?Iz[k]?=?T5:=by unfold Kc nH;(let e1:?DK=ys[?cG]:=?avB h);(let e0:?a3M=ys[t]:=?avB ?PL);rw[e1,e0,qx6];(let lt:(?DT t).length=t:=?YW);cases a:k<t;{rw[?tT,qj0,?GC,?z,?z]};rw[?oN,lt];cases b:k=t;{subst b;rw[?K,qk3];show(qa0 h).symm};cases c:k=?cG;{subst c;rw[?uT,?K,show ?cG-t=1 by show qp3 _ _];show(qa0 ?PL).symm};rw[?uT,?s c];rw[qc4 ?iK,qw5];congr 1;ext fm
def fJ[?LW](k:Nat):?xJ[k]?=?awT ?T5 ?aED:=by unfold Yc;rw[qa6,tE h]
private def JX[?a75](hs:?IO)(h:?QZ)(hm:?aeh):Bi ?xJ:=by intro k p' uD;rw[fJ h]at uD;cases e:?T5 with| none=>rw[e]at uD;cases uD| some p =>rw[e]at uD;let hp:?tH ?NS=p':=qb1 uD;subst hp;let F:=?b8Q hs;(let face:∀f∈p,∃(m:Nat) (q:?O),f=?p2/\?a2l/\?aez/\?aLT:=by intro f hf;let#[q,hq,hl]:=?agp;let f0:=F.low f hf;let#[m,?h]:=qh7 f0;rw[qb8,qj0]at hq;split at hq;(case isFalse=>cases hq);case isTrue hlt =>apply#[m,q,?gf,hl,?_];(let hk:k=t->m≠t:=by rintro rfl z;subst z;refine hm;(let:nH m m=?ae:=by simp[nH]);rw[this]at e;rw[qa1,e];show hf);unfold nH at hlt ⊢;(repeat' split at hlt);(all_goals repeat' split);all_goals first | (ext d) | (let:=hk ?aSW;ext d));(let look:∀(m:Nat) [?Ay],?a2l->?aLT->((?xJ).take k)[(NH ?xN ?p2).toNat]?=?i (q.map ?NS):=by intro m q hq hlt;rw[qA,qb8,qj0,?A hlt,fJ h,ZV,hq];rfl);apply#[by simpa using F.cnt,?akV,?akV,λh3 i j f' g' q' r' hij hj hi hq' hr'=>?_];{let ?a2p:=?cD hf';let#[m,q,?h,_]:=?aQz;rw[qA];ext d};{let ?a2p:=?cD hf';let#[m,q,?gf,hl,hlt]:=?aQz;apply#[_,?aYx,?_];unfold lev at *;rw[qa3,qa3];show hl};rw[qa6]at hj hi;cases ej:?JC with| none=>rw[ej]at hj;cases hj| some f =>cases ei:?H0 with| none=>rw[ei]at hi;cases hi| some g =>rw[ej]at hj;rw[ei]at hi;cases hj;cases hi;let#[m,q,?gf,_,hlt]:=?cd f ?agI;let#[n,r,?h,hr,_,Cb8]:=?cd g ?aQl;rw[?aYx]at hq';rw[?lo n r hr Cb8]at hr';cases hq';cases hr';(let below:∀(m:Nat) [?Ay],?p2∈p->?a2l->(?DT ?DL)[((m:Nat):Int).toNat]?=?e2:=by intro m q hm' hq;let#[q2,hq2,_]:=F.bel _ hm';rw[qb8]at hq2 ⊢;rw[qj0]at hq2 ⊢;split at hq2;(case isFalse=>cases hq2);case isTrue z=>rw[?b1];show hq);let:=F.agr ?aln i j _ _ q r hij ej ei (?m5 m q ?agI hq) (?m5 n r ?aQl hr);rw[qa6,qa6,this]
universe Hb
namespace Hb
open PySem L2
abbrev Vt(os:?O)(t:Nat):?O:=os.take t++[?ac0,?aWC]++os.drop ?wU
def FJ[?LW]:?atm ?Iz ys.length:=by unfold Kc;ext aqd
def SY[?LW]:?atm ?xJ ys.length:=by unfold Yc;rw[qa3,FJ h]
def tD{os:?O}{t:Nat}(h:?cG<os.length):?atm ?T3 os.length:=by unfold Vt;ext aqd
inductive Kw[?N]:?asf ?Jn ?O| refl:Kw xs xs ?a7B| step {ys:LLInt}{os:?O} (t:Nat):?ye->?QZ->?aeh->Kw xs ?xJ ?T3
def Kw.len[?AN](h:?ye):?avV ys.length/\?avV os.length:=by induction h with| refl=>show#[?h,U6 _]| step t h1 h2 _ ih=>show#[?b1q SY h2 (ih.1),?b1q tD (?r7 ih.2 (?JP ih.1 h2)) (ih.2)]
def Kw.shape[?AN](h:?ye)[?ay]:?IO:=by induction h with| refl=>show hs| step t h1 h2 h3 ih=>show JX ih h2 h3
def Gz[?dV]{l:?d6}{i:Nat}{d:α}:l.getD i d∈l\/l.getD i d=d:=by rw[qa1];cases h:?a7k;{rw[qa0 h];show ?x (qd6 h)};rw[qj5 ?g];show ?m4
def FY[?a75][?kd](h:p∈?Iz):p∈ys\/p=[]:=by unfold Kc at h;simp only[qk6,qe4,qj8,or_false]at h;rcases h with(h | h | h) | h;{show ?x (qn4 h)};{subst h;show Gz};{subst h;show Gz};show ?x (List.mem_of_mem_drop h)
def Kw.le4[?AN](h:?ye)[?mU]:∀y∈ys,y.length<=4:=by induction h with| refl=>show h4| step t h1 h2 _ ih =>intro y hy;unfold Yc at hy;let ?GX:=?cD hy;rw[qa3];rcases FY hp with q | q;{show ih p q};subst q;show ?a5
def Ja[?u](h:?dF):?p8:=?ax9 (by let ?a0k:=qi1 hx;let:=(h k x hk).cnt;ext d)
def Ae4(t f:Int):(?cz ?aEs f).getD f=NH t f:=by unfold lookI NH;rw[qo9];cases h1:t=f;{subst h1;simp};rw[show ?b2D t f by ext uI,qo9];cases h2:?cG=f;{subst h2;let:¬?cG=t:=?g;rw[qf0 ?h,?Ee,?K];rfl};rw[show ?b2D ?cG f by simpa using h2,List.find?_nil];rw[?b4a h1,?b4a h2];rfl
def Af9(t:Int):Jv [] [(?kI t,?aVU),(?aRv,?aB t)]=cK ?aEs:=by exact O5 (O5 (cK []) (?kI t) ?aVU) ?aRv (?aB t)=_;rw[pI,pI];let:¬t=?cG:=?g;simp[putI,this]
section
variable[?E]{H:Hp}
def Br8[?av][?gY]{k:Int}[?a6f]:?ac2:=?axS k
def tM[?aV][?a75]{va vb:V}(r:?au8 vs ?Vd)(ha:TI K H va ?a3M)(hb:TI K H vb ?DK) : ?au8 (Co vs ?aO ?aF3++[vb,va]++Co vs ?adj ?aO) (?acW tI):=by ext aqL;unfold Kc;rw[qb2,qb2,qp5,qt4];show((?Re t).append ((?aSo hb).append (?aSo ha))).append (?FQ ?wU)
def UB{os:?O}{t:Nat}:Co ?RU ?aO ?aF3++[?aB ?ac0,?aB ?aWC]++Co ?RU ?adj ?aO=?awT ?T3 ?aB:=by ext aqL;unfold Vt;simp
universe e9
section
variable[?n]
abbrev N4:Sp:=λvs H Q _=>Sx λ(a l:Addr) ?oH ?ah=>Lj (?b5Q ?k7) ?bP (?asu l ?f9) ?zW ?yC ?p8 (∀(R p o:Addr) (us:?a2) (ys:LLInt) (os:?O) (H':Hp),?aM->H' R=?awH [?aK,?I o]->?bZ->?auL H o->?IG->?b4H H' o ?RU->?b5h us ?Vd->?ye->?aL9)
universe e9
universe Hb
namespace L2
open PySem PySem.Spec PyProof.Rows
open AutoSeq1 (wpAny_loadPart')
private def UO(t:Addr)(vs:?dE)(n:Nat)(dd:OAddr)(sl:W1):?Di (Builtin.«enumerate.__new__» #[[?E6,?dn],[]]) (λ_ R s=>?eC t=?i { cls:=?cU,dict:=dd,data:=?acJ,slots:=sl } ∧ ?axF ?abM ?a7a) :=.of_wp λprog w A R s h=>by ext M0;let ?rl:=h;let hsub:=sub_enumerate;let gt:?XD ?aXF t vs:=#[_,q1,?h,n,?h];wp_walk using ?GB;apply wpAny_stack_any λst=>?ey;split;{rename_i c _ _ _ _ _;cases (c==?Wy ?jw);{wp_walk using ?GB,?a25;show ?Qn};wp_walk using ?GB,?a25;show ?Qn};wp_walk using ?GB,?a25;show ?Qn
section
variable[?dO][?bW][?bC]
def pB{e j t:Addr}[?AT]{x old:Value}[?bb][?a5R][?a6z](ne:e≠j) (k:?atG ?bV) : ?b2k (Builtin.«enumerate.__next__» #[[?gK],[]]):=by ext M0;ext aom;apply ?q (Lu gj gt gx λk1 gj1 w1=>?_);replace w1:?fY j hp k1:=w1;let ge1:?auv k1 j n:=(w1.2 e ne).trans ge;exact ?asN (?oE ?gK 3) ?QW;apply ?q (qk0 ge1 ?h (x:=?mx n) ?h ?_);exact ?asN (?oE ?gK 4) ?QW;apply ?at1 ge1 ?aS ?_;exact ?asN (mkInt n) ?QW;apply ?awo wpAny_mkInt;exact ?asN (?aDt ?gK 3 (?mx ?jU)) #[k1,?Ax];apply ?ay8 ge1 (λk2 ge2 w2=>?_);replace w2:?fY e k1 k2:=w2;replace ge2:?auv k2 j ?jU:=ge2;exact ?asN (?aDt ?gK 4 ?aS) #[k2,?Ax];apply ?ay8 ge2 (λk3 ge3 w3=>?_);replace w3:?fY e k2 k3:=w3;replace ge3:?auv k3 j ?jU:=ge3;exact ?asN (newTuple [?aXB,x]) #[k3,?Ax];apply ?awo wpAny_newTuple;let ge4:?auv ?aHb j ?jU:=?avR ge3;generalize AD:?aHb=k4 at ge4;(let sz:k3.objs.size=hp.objs.size:=by rw[w3.1,w2.1,w1.1]);let le:e<hp.objs.size:=qd0 ge;(let gt4:k4.get? ?H2=?i ?abh:=by rw[←AD,←sz];show ?eS);(let sz4:k4.objs.size=hp.objs.size+1:=by rw[←AD,ql3,sz]);(let kp4:?auO ?sy (b≠j->hp.get? b=?Z->k4.get? b=?Z):=?b84 (by rw[←AD];show ?avR (?jZ b o n1 (?nv b o n1 (?kn b o n2 q)))));(let gj4:k4.IsTupleIter j t ?r:=by rw[←AD];let#[o,q,r]:=(gj1.extBut ?nv ?vE).extBut ?jZ ?vE;show#[o,?zi,r]);exact ?asN (?a9p ?gK) #[k4,?Ax];rw[sz];clear AD ge3 w3 ge2 w2 ge1 w1 gj1 sz k3 k2 k1;apply ?iR;unfold Builtin.SmallTypes.ownedTupleIsFree;apply ?at1 ge4 ?aS ?ey;simp only[if_true];apply ?Tp;apply ?q (qk0 ge4 ?h (x:=old) ?h ?_);apply ?ay8 ge4 (λk5 ge5 w5=>?_);replace w5:?fY e k4 k5:=w5;replace ge5:?fE k5 e j ?jU x:=ge5;exact ?asN (?aHo ?gK (?I ?H2)) #[k5,?Ax];ext apw;apply ?ay8 ge5 (λk6 ge6 w6=>?_);replace w6:?fY e k5 k6:=w6;replace ge6:?b2q k6:=ge6;apply qm0 ge6 ?G λk7 ge7 w7=>?_;replace w7:?fY e k6 k7:=w7;replace ge7:?b2q k7:=ge7;apply ?q (?a4O (qc6 #[?aa,k k7 ge7 ?_ ?_ ?_ ?_]));{show((gj4.extBut ?oi ?vE).extBut ?a00 ?vE).extBut ?zz ?vE};{show ?zz _ _ ?Wn (?a00 _ _ ?Wn (?oi _ _ ?Wn gt4))};{rw[w7.1,w6.1,w5.1,sz4]};show ?b84 (?zz b o n1 (?a00 b o n1 (?oi b o n1 (kp4 b o n1 n2 q))))
def aU{e j t:Addr}[?AT]{x old:Value}[?AI][?a5R][?a6z](ne:e≠j) (k:?atG ?aYV):?aIh:=by ext apW;show ?atU qw0 (?b74 (pB ge gj gt gx ne λh' a b c d q=>qc6 (k h' a b c d q)))
def cQ{e j t:Addr}[?AT]{old:Value}[?AI][?MC][?a5R](gx:?aTL) (k:∀h',?agd->?aNC):?aIh:=by ext apW;apply ?atU qw0 (?b74 ?_);ext aom;apply ?q (T6 hn gj gt gx λh' x he hx=>?_);let ?IP:=hx;show ?avC he
def pH{t:Addr}{vs:?dE}[?bb](gt:?Na) (k:∀h',?b2o h'->?tZ ?aG t 0->?b6f ?wg->?aMP->Q ?a4A ?f7) : ?asL ?ab (?fB ?E6 [?dn]):=by have#[#[c,dd,dt,sl],q,qc,n,qd]:=gt;replace qc:c=?cU:=qc;replace qd:dt=?acJ:=qd;subst qc qd;apply ?aiw F.called_enumerate ?L (F.typeCall_enumerate_1 _) (F.newCall_enumerate_1 _) (λobj=>F.args_object_init_2 obj _) F.entry_enumerate_new (UO t vs n dd sl) #[q,?_];let z1:?abM=?ba:=?W6;exact _/\_;rw[z1];(let ge:?b2o ?a7a:=by let:=qd3 ?a4Y (o:=?aWj) ?h;rw[z1]at this;show this);show#[?aZ5,k _ ge #[_,?Wu,?V] ?afN λb o x=>?aI5]
universe e9
abbrev IteT[?n][?cb]:It:=IteG ?aHJ a
def nG[?b6][?E][?it](a e it:Addr)(hne:?Q0):?b51 ?ze ?aLy where
 mem:=?c2
 obj:=?b3C ?Js
 keep:=?aJ7
 item:=by
  ext cZ;ext u2;ext aoy;show aU h1 h2 ?Gs (x:=u) ?pw hne (?b9P (gS (i:=i) (Y:=(IteT ?a7 a).yld i H) (T:=?b7g ?n8) hne I hf h1 ?Js ru hout ?n7 hk ?aJn λhn=>#[_,x,hn,?V,?aLh]))
 done:=by
  ext cZ;ext u2;ext aqJ;ext ir;let hl:=rv.length;show ?b8S cQ ?Gs
 self:=λ_ _ _ _ _ st h=>by
  ext u2;show ?aPz
inductive SK[?n][?pN]:Prop| mk:∀a,?sw->?avX ?Zb ?ze ?aVJ
abbrev A30[?n](ta:TA):TI:=?asY ?aVJ
def v4:?aH0:=?cX
def WL{X:Cx}[?E][?it][?apA][?bJ][?L9]:?b4c ?aM1 A30:=by subst hK;ext kV;apply ?atu v4 ?a2f;ext Lo;let ?aHN:=q1;subst e;cases r1 with| cons r rr =>cases rr;cases r;let ?IU:=?IS hq;apply pH (show ?Kq l ?bO from pl) ?adP;apply ?aus nG
section
variable[?ka][?gU]
def uM[?E][?dP][?kU][?aqg] [?a5G] : ∃W:?g6,?b3c ?ze ?ze ?ze:=?aVH
universe e9
universe L2
namespace Hb
abbrev Ir[?pf](f:Int):?J| 0=>0| ?k=>if ?g5=f then ?aGr+1-?Dt else ?aGr
abbrev Pm[?pf](f:Int):Int:=Ir fs f ?sd
abbrev uC(x e:Int):Int:=if x=e then 1 else 0
def Ad0(e:Int):Pm [] e=0:=rfl
def QM(x y e:Int):?Uq=?aUn:=by exact(if y=e then ?abS+1-?b2s 1 else ?abS)=_;unfold uC;split<;>split<;>simp_all
def qM(x y z e:Int):Pm [x,y,z] e=?aUn+uC z e:=by exact(if z=e then ?Uq+1-?b2s 2 else ?Uq)=_;rw[QM];unfold uC;split<;>simp_all<;>ext d
def XM[?B0](h:?b22 2):∃a b,l=?e4:=by match l,h with| ?e4,_=>show ?Vh
def xM[?B0](h:?b22 3):∃a b c,l=?fs:=by match l,h with| ?fs,_=>show ?Iy
def B77[?B0](h:?b22 4):∃a b c d,l=?yg:=by match l,h with| ?yg,_=>show ?TX
abbrev sg(i:Nat):Int:=?Vl
def Be1[?u][?ay]{k:Nat}{q:?O}(hq:?Sc=?e2)(e:Int):?asS (?o7*?b6j ?af1) q.length=0:=by let F:=hs k q hq;(let face:∀f∈q,∃p,?sL=p/\?EM[f.toNat]?=?kJ/\lev p+1=lev q/\?akO:=by intro f hf;have#[p,hp,hl]:=?agp;(let hp2:?wG=?kJ:=by rw[qj0]at hp;split at hp;{show hp};cases hp);show#[p,by rw[qa1,hp2];rfl,hp,hl,(hs _ _ hp2).cnt]);rcases F.cnt with h | h | h | h;{rw[h];rfl};{apply ?eX;let ?Vh:=XM h;let#[A,ha,_,la,ca]:=?QN;let#[B,hb,_,lb,cb]:=?PW;apply ?ej;(let za:A=[]:=by ext a6N;refine qu8;ext d);(let zb:B=[]:=by ext a6O;refine qu8;ext d);subst za zb;exact ?asr e=0;rw[ha,hb,Ad0];simp};{apply ?eX;let ?Iy:=xM h;let ?aPA:=?QN;let ?a7j:=?PW;let ?aCQ:=?aCz;apply ?ej;let#[a0,a1,?h]:=XM (l:=A) ?aEB;let#[b0,b1,?h]:=XM (l:=B) ?aCX;let#[c0,c1,?h]:=XM (l:=C) ?aeR;let G:=?abo;let e1:=?aCJ;let e2:=?aKX;let e3:=?aCl;simp at e1 e2 e3;subst e1 e2 e3;exact ?b58 e=0;rw[ha,hb,hc,QM,QM,QM];simp[sg];ext d};have ?TX:=B77 h;have ?aPA:=?QN;have ?a7j:=?PW;have ?aCQ:=?aCz;have#[D,hd,gd,ld,cd]:=?cd d ?G;let#[a0,a1,a2,?h]:=xM (l:=A) ?aEB;let#[b0,b1,b2,?h]:=xM (l:=B) ?aCX;let#[c0,c1,c2,?h]:=xM (l:=C) ?aeR;let#[d0,d1,d2,?h]:=xM (l:=D) (by unfold lev at ld;simp at ld;ext d);let G:=?abo;let e1:=?aCJ;let e2:=?aKX;let e3:=?aCl;let e4:=?awl 3 d gd;let e5:=?b2h 3 d gd;let e6:=G 2 3 d c _ _ ?L ?h ?h gd gc;simp at e1 e2 e3 e4 e5 e6;subst e1 e2 e3 e4 e5 e6;exact ?b58 e+sg 3*Pm (?atW d.toNat) e=0;rw[ha,hb,hc,hd,qM,qM,qM,qM];simp[sg];ext d
universe Hb
namespace Hb
open PySem L2
abbrev AZ(n:Int)(i:Nat):Int:=if ?Ip=0 then n else -n
abbrev Jh(ms:Ms)[?ix]:?wv| 0=>ms| ?k=>?Uf
abbrev PL(ms:Ms)[?ix]:Ms:=?b34 Jh ?sd
def GO(ms:Ms)[?pf](n k:Int):∀i,?b77 ?hE ?rX n| 0=>by simp[Jh,Ir]| ?k=>by exact ?b0k ?Uf=_;rw[RD,GO ms fs n k i];exact _=?bd+(if ?VH then ?aDm else ?rX)*n;cases h:k=?g5;{rw[?b3,?S9];(let e:?ry=?Vl*n:=by unfold AZ;let:?aSa:=?g;ext a5P);rw[e,?asC (?aDm=?rX+?Vl),qu1];ext d};rw[?ad,?a1T]
def CQ[?dq][?ix]:∀i,nd ?hE| 0=>h| ?k=>OI ?ac4 _ _
def LK[?Ai][?ix]:∀i,nz ?hE| 0=>h| ?k=>WW (LK h fs n i) _ _
def j7(ms:Ms)[?ix]:∀i,?asa ?hE ?al6| 0=>?l| ?k=>by let h1:=?b34 j7 i;let h2:=jA ?hE ?g5 ?ry;exact ?b7s Kv;ext d
def QL[?uM]{k:Int}:∀{i},(?dz i).any (λi=>?w ?VH)=false->?rX=0| 0,_=>rfl| ?k,h=>by rw[ql5,List.any_append,qp8,List.any_nil,Bool.or_false,Bool.or_eq_false_iff]at h;exact ?b6G ?VH ?rX 0;rw[?s (of_decide_eq_false h.2)];show QL h.1
abbrev Kd[?N](k p n:Int):Bool:=Eu xs ?Kj k&&?w (¬n=0)
abbrev chainB[?N](k:Int)(ms:Ms):Bool:=ms.all λp=>Kd xs k ?v p.2
abbrev Nu[?N](ms:Ms):?wv| 0=>[]| ?k=>PL ?h6 ?zR ?Dn
abbrev Ca[?N](ms:Ms):Ms:=Nu xs ms ?NU
def gC[?u][?mU](ms:Ms):?b1y ?h6| 0=>?l| ?k=>by let h1:=gC h4 ms i;exact ?b7s PL;unfold PL;let h2:=?b8T j7 ?h6;(let h3:?wQ<=4:=?atd ?Ss);ext d
def KY[?u]{p l:Int}(h:Eu xs ?Kj l=true):?a7M:=by let h':?b5Y ?qj ?t7 (?v7=l):=h;rw[qc2,qc2]at h';show#[qc9 h'.1.1,qc9 h'.1.2]
abbrev Qu(b:Addr)(H H1:Hp):Prop:=∀c q,?Ez->H c=?e2->H1 c=?e2
section
variable[?E][?mn]{b:Addr}{m:?gC}
def SqL.x[?LV][?dP](h:?gv):?a7C:=?aOv
def SqT.x[?LV][?dP][?Ah]:?aMR:=?aOv
mutual def Rep.x[?LV]{v:V}{d:L2.D}[?MU]:?b5W H1 v d:=?asn (?b8M SqT.x) (?b8M SqL.x) def Reps.x[?LV][?aV]{ds:?w8}[?MG]:?b2 K H1 vs ds:=?auP #[v,q,e,Rep.x s hb h1,Reps.x s hb h2] end
universe e9
section
variable[?n]
abbrev bT:Sp:=?asE (X9 λ ?cp ?ah (k p n:Int)=>Ft (vs=[?R,?f5,?Kj,?fD]) ?bP (?b41 (Kd xs k p n)))
abbrev S6:Sp:=?asE (?b8m ?om (?b3o (.bl (?F8 xs k ms))))
abbrev Ho:Sp:=?asE (X9 λ ?fJ ?ah ?Ft ?hx=>Ey (?b6Z ?bT ?EY) ?bP ?yR ?om ?aQc (?b3o (.bl ((?xV).any λ ?zv=>?aNJ))))
abbrev Yh:Sp:=?asE (X9 λ ?cp ?e8 ?hx (fs:?O) ?aw=>Di (?b6Z v ?fD) ?oo (?b5L fs) (?b5S fs.length<=100000) (∀H',Qu a H H'->?rY=?b3j (PL ms fs n)->?dm))
abbrev Z7:Sp:=?asE (Sx (?b8r ?om (∃k:Nat,?eB/\?aNJ=true) (?b6k ?i7)))
universe e9
universe Hb
namespace Hb
open PySem L2
abbrev wF[?aZ](ms:Ms):Int:=(?b2H ?Uo).sum
def Sz[?aZ]:?asv []=0:=rfl
def Ds[?aZ][?Mc](ms:Ms):?asv ?hS=?Uo+?ct:=by unfold wF;rw[qd7,qm8]
def Fq(k:Int):?Bi=0:=rfl
def pY[?aZ](k:Int):?b6W (?asv ?jR=?ct-?bd*φ k)| [],_=>by exact ?cu=0-?Bi*φ k;rw[Fq];simp| ?hS,h=>by ext tt;let ih:=pY φ k (ms:=ms) h.2;rw[C3,Ds];ext kb;{rw[?cF];(let hd:?aJT=?jR:=?b17 qy2);let hg:?bd=0:=Fp (by rw[←e];show h.1);rw[hd,ih,hg,←e,qg0];ext d};rw[?iE];(let hd:?aJT=p::?jR:=?b17 qy1);rw[hd,Ds,ih];ext d
def U5[?aZ](as bs:Ms):?asv (as++bs)=?asv as+?asv bs:=by unfold wF;rw[qb2,qz6]
def VR[?aZ](k v:Int):∀{ms:Ms},?fv->k∈?bY (·.1)->?b6F ?aV5 (v-?bd)
 | [],_,h=>?gL
 | ?hS,h,hk=>by
   ext tt;rw[qd7,Ds,Ds,C3];ext kb
   . rw[?cF,?cF]
     let same:?aV5=ms:=by
      conv=>rhs;rw[←?aZU ms]
      refine qm7;intro q hq;let:¬?zF:=λz=>h.1 (by rw[e,←z];show qm6 (f:=(·.1)) hq);rw[?Ee];rfl
     rw[same,e,Int.sub_mul];exact v*φ k+?ct=_;ext d
   . ext AV
     let hk2:k∈?bY (·.1):=by
      rw[qd7,qe4]at hk;rcases hk with z | z
      . show ?X ?cT e
      . show z
     rw[VR φ k v h.2 hk2];ext d
def vR[?aZ][?dq](k v:Int):?b6F ?gg (v-?bd):=by cases hk:k∈?bY (·.1);{unfold putI;rw[?A (bJ.mpr hk),VR φ k v h hk]};rw[put_new hk,U5,Fp hk,Ds,Sz];simp
private def vS[?aZ][?dq](k n:Int):?b6F ?nG n:=by unfold Kv;split;{rename_i e;rw[pY φ k h];let:?bd=-n:=?g;rw[this,qq6];ext d};rw[vR φ h,?asC (?Ku-?bd=n)]
def JV[?aZ][?dq][?ix]:∀i,?asv ?hE=?ct+n*?asU ?afP i| 0=>by exact ?aD4;simp| ?k=>by exact ?asv ?Uf=?ct+n*(?Ja+?a3h);rw[vS φ ?ac4,JV φ h fs n i,Int.mul_add];(let e:?ry=n*?o7:=by unfold AZ sg;let:?aSa:=?g;ext a5P);rw[e,qe9];ext d
def Lg[?N](ms:Ms):∀i,nd ?h6| 0=>qr8| ?k=>CQ ?aML _ _ _
def cP[?N](ms:Ms):∀i,nz ?h6| 0=>?aBp| ?k=>LK (?b1v cP) _ _ _
abbrev face[?N][?aZ](p:Int):Int:=?asU (?kv*φ ?aIp) ?GL
def jV[?aZ][?N](ms:Ms):∀i,?Jc->?asv ?h6=wF ?aTF ?xG| 0,_=>rfl| ?k,h=>by exact ?b5X (PL ?h6 _ _);unfold PL;rw[JV φ ?aML,jV φ xs ms i ?g,qr0,?BT,U5];(let e:?Eh=?rD:=?az5 ?BT);rw[e];exact _+_=_+wF _ [?rD];rw[Ds,Sz];unfold face;ext d
def IA[?aZ][?N](ms:Ms):?asv ?i7=wF ?aTF ms:=by unfold Ca;rw[jV φ xs ms _ ?l,qc8]
abbrev RI(e k:Int):Int:=if k=e then 1 else 0
def y6(e:Int):?b6W (wF ?a17 ms=An ms e)| [],_=>rfl| ?hS,h=>by ext tt;rw[Ds,C3,y6 e h.2];unfold RI;cases z:?v=e;{rw[?b1,?b1,Fp (by rw[←z];show h.1)];ext d};ext M1;ext d
def rH[?N](e p:Int):?b5M ?a17=?zN:=by (let:∀[?pf] (i:Nat),?asU (?kv*RI e ?ny) i=?uf:=by intro fs i;induction i with| zero=>rfl| succ i ih =>exact ?Ja+?o7*RI e ?g5=?Tj;rw[ih];unfold RI sg;ext bB);show ?P _ _
def Ei[?u]{ms:Ms}(e:Int):?acG=wF ?aCj ms:=by let h:=y6 e (Lg xs ms ?NU);change wF ?a17 ?i7=?acG at h;rw[←h];rw[IA];unfold wF;congr 1;refine qm7;intro p _;rw[rH]
def HX{φ:?cy}:∀{ms:Ms},(∀p∈ms,?vr=0)->?ct=0| [],_=>rfl| ?hS,h=>by rw[Ds,h p ?c2,HX (?b82 h)];simp
def HD[?u][?ay]{ms:Ms}(hin:∀p∈ms,?qD/\?X1):?ux=[]:=by (let z:∀e,An ?ux e=0:=by intro e;rw[Ei,IA];apply HX ?eI;let ?aQM:=?b7u hin;(let hq:?aXw:=?az5 ?Q6);unfold face;show Be1 hs hq e);let hn:=Lg xs ?i7 ?alV;let hz:=cP xs ?i7 ?alV;change nd ?ux at hn;change nz ?ux at hz;cases e:?ux with| nil=>rfl| cons p r =>rw[e]at hn hz;let h1:=Ef hn (qb9 (a:=p) (l:=r));let h2:=z ?v;rw[e]at h2;unfold An at h2;rw[h1]at h2;show ?X h2 (hz p ?c2)
abbrev Bk1(n:Nat)(k:Int):Bool:=?w (?aw=?F) || (?w (k=0)&&?aGq)
abbrev spN[?N](k:Int):?ayu ?O| 0=>[]| ?k=>if Bk1 ?BY k=true then ?a7I++[?cl] else ?a7I
abbrev spots[?N](k:Int):?O:=spN xs k ?be
def iA[?aZ]:∀ms:Ms,?asv ?mI=?ct| []=>rfl| ?hS=>by let ih:=iA φ ms;unfold Dd at ih ⊢;cases z:p.2=0;{rw[qy2 ?Ke,ih,Ds,z];simp};rw[qy1 ?Ke,Ds,Ds,ih]
def jB[?u][?kd](h:?dF)(hp:?qG):Bi ?a2C:=by intro k q hk;cases hlt:?aao;{rw[?CF]at hk;rw[?UA];show h k q hk};let hk':?b3Z k ?a2C:=?acN;(let e:?avV k:=?amO);ext aqY;show hp
structure Part[?N](need:Nat)[?pk]:Prop where
 ok:∀f∈p,?a8g
 agr:?Za->∀i j:Nat,?co->?D1->?ahG
def Part.nil[?u]{need:Nat}:?b1j []:=#[λf h=>?zY,λ_ i j _ h=>?gL]
def Part.snoc[?u]{need:Nat}[?kd]{f:Int}(h:?amU)(hf:?a8g) (ha:?Za->∀i:Nat,i<p.length->?b6r ?sL i=?aba ?Im 0):?b1j ?aEX:=by apply#[?aDR,λhn i j hij hj=>?_];{rcases ?a0j hg with q | q;{show h.ok g q};(let:g=f:=?k1);subst this;show hf};rw[qb6,qi3]at hj;(let gi:?ZA i 0=?Hs:=by rw[qa1,qa1,?tT]);rw[gi];cases e:?D1;{(let gj:?ZA j 0=?Ih:=by rw[qa1,qa1,qc5 e]);rw[gj];show ?w0 hn i j hij e};let e2:j=p.length:=?g;subst e2;(let gj:?ZA ?UI 0=f:=by rw[qa1,?qq,qk3];rfl);rw[gj];show ha hn i hij
def Part.fits[?u]{size need:Nat}[?kd](h:?amU)(hp:?azl size)(hs:(?b0E 0 0)\/(?b0E 2 0)\/(?b0E 3 2)\/(?b0E 4 3)):?qG:=by (let look:∀f∈p,?wG=?i ?sL:=?axY (by let#[h0,h1,_]:=?NE;rw[qa1,?Q6];rfl));apply#[?g,?axY ((?NE).1),?axY #[_,?lo f hf,?_],λh3 i j f g q r hij hj hi hq hr=>?_];{let:=(?NE).2.2;unfold lev;rw[this,hp];(let:p.length≠0:=λz=>by let:=qu8 z;ext er;cases hf);first | (rw[hp]at this;rcases hs with⟨rfl,rfl⟩|⟨rfl,rfl⟩|⟨rfl,rfl⟩|⟨rfl,rfl⟩<;>first | rfl | show ?X ?h ?P) | ext d};let hjl:?D1:=?a4b;(let fj:?Ih=f:=by rw[qa1,hj];rfl);(let gi:?Hs=g:=by rw[qa1,hi];rfl);let hn:?Za:=?g;let a:=?w0 hn i j hij hjl;rw[fj,gi]at a;rw[?lo f ?qO]at hq;rw[?lo g ?tD]at hr;cases hq;cases hr;let l1:=(h.ok f ?qO).2.2;let l2:=(h.ok g ?tD).2.2;generalize ?sL=A at a l1 ⊢;generalize ?atW g.toNat=B at a l2 ⊢;let i1:i<A.length:=?g;let i2:?eF<B.length:=?g;rw[qa1,qa1,qa0 i1,qa0 i2]at a;rw[qa0 i1,qa0 i2];show ?cv ?i a
section
variable[?n]
abbrev S9:Sp:=?asE (Kz λ ?cp ?ah (c:Int)=>Di (?b5Q ?Db) ?bP ?dF ?yC (∀(R:Addr) (v:V) (m:Int) [?pk] (H':Hp),?aM->SqT K H' R [v,?t m]->TI K H' v p->?qG->?aL9))
universe e9
def lQ{ms:Ms}{k n:Int}[?uE](h:q∈?nG):q∈ms\/q=(k,?Ku):=by unfold Kv at h;split at h;{show ?x ?aTV};show qS h
def cY{ms:Ms}[?uM]{n:Int}:∀{i:Nat},i<=fs.length->∀q∈?hE,q.1∈?bY (·.1)\/q.1∈fs| 0,_,q,h=>?x (qm6 (f:=(·.1)) h)| ?k,hi,q,h=>by rcases lQ h with z | z;{show cY ?g q z};subst z;apply ?y ?_;exact ?g5∈fs;ext AZ;show ?ji
def gE[?u]{ms:Ms}:∀{i:Nat},?Jc->∀q∈?h6,∃p∈ms,q.1∈?Ht| 0,_,q,h=>?zY| ?k,hi,q,h=>by ext apo;rcases cY ?l q h with z | z;{let#[r,hr,er]:=?cD z;let#[p,hp,hq]:=gE ?g r hr;show#[p,hp,by rw[←er];show hq]};show#[?rD,?ji,by rw[←e];show z]
def MP{ms:Ms}[?uM]{n:Int}{M:Nat}(hm:∀p∈ms,?X2<=M):∀(i:Nat),∀q∈?hE,?aYk<=M+?O7| 0,q,h=>by let:=hm q h;simp;show this| ?k,q,h=>by let ih:=MP hm i (fs:=fs) (n:=n);let e:?k*n.natAbs=?O7+n.natAbs:=Nat.succ_mul ..;rcases lQ h with z | z;{let:=ih q z;ext d};subst z;(let hs:(?ry).natAbs=n.natAbs:=by unfold AZ;ext bB);(let hg:?asX ?afF (M+?O7):=by unfold An;cases e2:?cz ?hE ?g5 with| none=>simp| some v=>show ih _ (Mx e2));exact(?afF+?ry).natAbs<=_;apply ?m (qg9 _ _) ?_;rw[hs,e,←qp4];show qm4 hg _
def mP[?u][?mU]{ms:Ms}{B:Nat}(hb:∀p∈ms,?X2<=B):∀{i:Nat},?Jc->∀q∈?h6,?aYk<=i*?xR| 0,_,q,h=>?zY| ?k,hi,q,h=>by let ih:=mP h4 hb (i:=i) ?g;ext apo;let:=MP ih _ q h;rw[e]at this;let hB:=hb ?rD ?ji;(let hl:?aRY<=4:=?atd ?amw);let h2:?aRY*ms[i].2.natAbs<=?xR:=qh0 hl hB;let e3:?k*?xR=i*?xR+?xR:=Nat.succ_mul ..;ext d
def lT(n:Nat):?SX:=?TE
def lU{a b:Nat}(h:a-1+1=b-1):Ci a=Ci b-1:=by rw[lT,lT,←h,qz8];show(Int.add_sub_cancel _ _).symm
def Ks[?u][?ay]{k:Int}{ms:Ms}(hm:∀p∈ms,?qD/\?X1/\?b9i ?Ht):?F8 xs ?dg ?i7=true:=by apply ?ZB ?lY;let hz:q.2≠0:=cP xs ms _ q hq;let#[p,hp,hf]:=gE ?l q hq;let ?QM:=?b7u hm;(let hx:?aXw:=?avB (?uv a b));let F:=hs _ _ hx;let#[r,hr,hl]:=F.bel q.1 hf;let q0:=F.low q.1 hf;(let hr2:?b3E ?T1=?i r:=by rw[qj0]at hr;split at hr;{show hr};cases hr);let Di3:?axO ?T1:=(?bi hr2).1;(let er:?P4=r:=by rw[qa1,hr2];rfl);(let hlr:Ci ?aOU=?dg:=by rw[lU hl,c]);unfold Kd;rw[qc2];apply#[?_,?aBk];exact ?b5Y ?acm ?a0W (?auu ?P4=?dg);rw[er,qf0 q0,qf0 (?asC ?a0W),qf0 hlr];rfl
universe Hb
namespace L2
open PySem PySem.Spec PyProof.Rows
universe L2
namespace Hb
open PySem L2
abbrev P4[?N](k:Int)(n:Nat):?O:=((?xV).filter ?ajM).map λ(j:Nat)=>?gP
abbrev Cr[?N](k:Int):?O:=?aV6
def kY[?u]{k:Int}{n:Nat}(h:?Iq):?aZO=?aUY:=by unfold P4;rw[ql5,qj1,qb2,qy1 ?lu];rfl
def QI[?u]{k:Int}{n:Nat}(h:¬?Iq):?aZO=?EK:=by unfold P4;rw[ql5,qj1,qb2,qy2 ?lu];simp
def Et[?N](k:Int)(n:Nat):?J9<=n:=by unfold P4;rw[qa3];let:=qf9 ?ajM ?xV;ext he
section
variable[?n]
abbrev E8:Sp:=?asE (Kz λ ?cp ?cl ?ah=>Bv (?b5Q ?aX) ?bP ?yC (?b3g (?i (?U ((Cr xs i).map ?aB)))))
universe e9
def belowD_of{i b:Int}(h0:?k3)(h1:i<b):?ayI belowD ?aX b:=by exact ?auy ?aP2;rw[qf0 h0,qf0 h1];rfl
def Ae2(g:?cy)(sp:?O):?IR g=Ic ?zC (λi=>g ?zK):=by unfold Ic;refine List.ext_getElem;{simp};intro i h1 h2;simp at h1;simp[h1]
def dW[?N](p e:Int):An ?xd e=?zN:=by rw[Ei];exact 1*?zN+0=_;ext d
def Cn[?u]{k p:Int}(h:?R6):?qj/\?t7/\?v7=k:=by unfold Cr P4 at h;let ?Nq:=?Ey;let h1:=?jx hj;let h2:=?yi ?lW;apply#[?g,by show ?IZ h2,?_];rw[qb8];simpa using h1.2
def FW[?u][?mU](p e:Int):?ath ?zN ?F7:=by rw[←dW xs p e];unfold An;cases h:?cz ?xd e with| none=>decide| some v =>let hm:=Mx h;let:=mP (B:=1) h4 (ms:=?no) (?axy (by rw[qg5]at hq;subst hq;show qa5 1)) ?l _ hm;exact v.natAbs<?F7;let h2:v.natAbs<=1*(4*1):=this;ext d
def Gh[?N](k:Int):(?dx).Nodup:=by unfold Cr P4;show List.Pairwise.map _ (λa b h=>?g) (?aUx _ List.nodup_range)
def VL[?ts]:(?sR).map (·.1)=sp:=by rw[show(λx:?ds=>x.1)=Prod.fst from rfl,List.map_fst_zip ?g]
def mY[?ts](h:sp.Nodup):nd ?sR:=by unfold nd;rw[VL hl];show h
def MY[?ts]{i:Nat}(hi:?aEW):?avL ?sR (?zK,?mF):=by rw[qa0 ?iK,List.getElem_zip,qa1,qa1,?tA,?n2];rfl
def kU[?ts](h:sp.Nodup):?IR (An ?V7)=ns:=by let hn:=mY hl h;refine List.ext_getElem;{simp[hl]};intro i h1 h2;rw[List.getElem_map,OV hn];let hi:?aEW:=?g;let hz:=MY hl hi;let hm:=qa9 hz;let hg:=?aPS;(let e1:?zK=sp[i]:=?az5 ?tA);(let e2:?mF=?nK:=?avB h2);rw[e1,e2]at hg;unfold An;change (?aeu).getD 0=?nK;rw[show ?aeu=?i ?nK from hg];rfl
def nA[?aZ][?ts]:∀i,i<=sp.length->?asv ((?sR).take i)=?asU (φ ?ajy*?rB j 0) i| 0,_=>rfl| ?k,hi=>by rw[qr0,MY hl ?aX0,U5,nA φ hl i ?g];exact _+(?mF*φ ?zK+0)=?Ja+φ ?zK*?mF;rw[qf8 ?mF,qe5]
def MN[?u][?ts](e:Int):?auQ ?V7 e=?asU (?b6j ?ajy*?rB j 0) ?zC:=by rw[Ei,iA];let h:=nA ?aCj hl ?zC ?l;rw[qi6 (by simp;show ?se)]at h;show h
def Zp{sp ns:?O}[?uE](h:q∈?V7):q.1∈sp/\q.2∈ns:=by let h1:=?aTV;show#[(qv5 h1).1,(qv5 h1).2]
section
variable[?n]
abbrev Fg[?d0]:Sp:=?asE (Ji λ(i b:Int)=>Bv (vs=[?aX,?lN]) ?k3 (i<b) ?ab1)
abbrev Vu:Sp:=?asE (Sx λ ?fJ (sp:?O) ?hx=>Di ?iU (?b5I a (?IR ?aB)) (Rd H b ?YQ) (sp.length<=1000) (?b3g (?i (?U ((?IR (An ms)).map ?aB)))))
abbrev Sf:Sp:=?asE (Kz λ ?cp ?ah ?aL=>Lj ?aiQ ?bP ?yC ?p8 ?jO (k<5) (Ad6 H (?xI).length ?nJ (λi j=>?aOz) Q))
universe e9
def sumN_one{sp:?O}(h:sp.Nodup){k:Int}(hk:k∈sp)(c:Int):?j (λm=>?aBA) ?zC=c:=by let ?aXp:=qg8 hk;(let key:∀m,?aXm->?aBA=?axM m ((λ_:Nat=>c) m):=by intro m hm;rw[qa1,qa0 hm,Option.getD_some];cases q:m=i;{subst q;rw[?cF,?K,qe2]};rw[?dI,if_neg,qg0];intro z;show q ((?aCD h).mp (z.trans ?lL)));rw[Ag key,Eo,?gQ]
def pX{sp:?O}(hs:sp.Nodup)[?aZ]:?b6W ((∀p∈ms,?v∈sp)->?ct=?j (λm=>?azd ms) ?zC)| [],_,_=>by rw[Sz,Ag (g:=?dh) (λm _=>by rw[Fq,qe1]),U7]| ?hS,h,hk=>by ext tt;let ih:=pX hs φ (ms:=ms) h.2 ?aA6;let h1:=?ak hs ?a8a ?ahw;(let e:∀m,?aXm->?azd ?hS=(if ?jF=?v then ?ahw else 0)+?azd ms:=by intro m _;rw[C3];cases q:?jF=?v;{rw[?A ?JT,?fF,q,Fp h.1,qe1,qe5]};rw[?s ?a2u,?dI,qk8]);rw[Ds,ih,Ag e,De,h1,qf8 p.2]
abbrev Pt[?N](k:Int)[?dU]:Int:=?aOz
def K6[?u]{k p:Int}(h0:?qj)(h1:?t7)(h:?v7=k):?R6:=by unfold Cr P4;apply ?KN #[?o9,qg2.mpr #[?tj ?ahn,qf0 h],?g]
def Aw0[?u]{k:Int}{j:Nat}(hj:j<?nJ):?nz∈?dx:=?aFT
def oF[?u][?ay]{k:Int}[?fn](hj:?b3Z j ?a8r):?j (λm=>Pt xs k i m*Pt xs ?F m j) ?nJ=0:=by let ?Ud:=Cn (Aw0 hj);unfold Pt;rw[?HC];generalize ?aFt j 0=p at q0 q1 q2;generalize ?aXO=e;let hcb:=Ks hs (k:=?F) (ms:=?no) (λr hr=>by rw[qg5]at hr;subst hr;show ?Ud);rw[?HC]at hcb;(let hkey:∀r∈?xd,r.1∈?dx:=λr hr=>by ext a5d;let h2:(?HP&&?w (?Gj=k))=true:=?lW;rw[qc2,qc2]at h2;show ?aMQ);let hbb:=HD hs (ms:=?no) (λr hr=>by rw[qg5]at hr;subst hr;show#[q0,q1]);let hg:=Ei (xs:=xs) (ms:=?xd) e;rw[hbb,Fq,pX ?xo _ (show nd ?xd from Lg ..) hkey]at hg;apply ?tI (Ag λm _=>?_) hg.symm;rw[dW]
def Ab1[?N]:?aOs=[]:=by cases h:?aOs with| nil=>rfl| cons p l =>exfalso;let h1:=(Cn (xs:=xs) (k:=0-1) (p:=p) (by rw[h];show ?c2)).2.2;unfold Ci at h1;split at h1<;>ext d
def NG[?u][?mU](k:Int)[?dU]:?acn<?F7:=?acp
section
variable[?n]
universe e9
meta abbrev Cv[?N](k:Int):Nat:=?nJ
def LJ[?pf](e:Int):∀i:Nat,-((i / 2:Nat):Int)<=?uf/\?uf<=((?k / 2:Nat):Int)| 0=>#[zb1 _,zb1 _]| ?k=>by let ih:=LJ fs e i;exact _<=?Tj/\?Tj<=_;ext bB
def qL[?uM](h:?b2Z 4)(e:Int):?asX ?a3C 2:=by let:=LJ fs e ?sd;unfold Pm;ext d
def zT[?u][?mU](k:Int)[?dU]:?acn<=2:=by apply qL ?_ _;rw[qa1];cases e:?b3E ?act with| none=>show ?a5| some x=>show ?a2O
def wK[?u]{k l:Int}(h:k≠l):?b6S (?ap+?azs l):=by (let nd:(?aTg).Nodup:=by rw[qx4];apply#[?NG,?NG,λa ha b hb e=>h ?_];let h1:=(Cn ha).2.2;let h2:=(Cn hb).2.2;rw[←h1,←h2,e]);(let sb:?aTg ⊆ ?a7B:=?awc (by (let:?a7M:=by ext a6K;{show ?aOR};show ?aOR);unfold PY;rw[qd1];show#[?o9,?tj (?uv ?oB ?Q3),?g]));let:=nd.length_le_of_subset sb;rw[qb6,U6]at this;show this
meta abbrev BPart:=Int × Ms × Ms × Ms
abbrev Hq[?N][?MD]:Ms:=?ZC
structure EH[?N][?Ld][?aI][?iu]:Prop where
 lev:Lat.Lev ?yp ?ap z ?Ck L G
 fin:A82 z ?zp ?a9i ?eW (kS z ?zp) (Lat.gT ?ap G (Pt xs ?F)) k0 f l r
 ch:?akH
 kz:?a2V
 kw:k0<=?zp
 bL:?aZw
 bG:?aLQ
 zm:z<=?ap
abbrev B9[?N][?Ld][?aI][?iu](i:Nat):BPart :=(?fI,?a3c,?Kt,?rp)
abbrev B7[?N][?Ld][?aI][?iu]:?g3:=?aLJ ?adU
abbrev Oj[?N](k:Int)[?br]:Prop:=∃z k0 L G f l r,?aTD/\ps=?wz
def OP[?u][?ay](k:Int):?avZ ?zp (?b5P (λa=>Pt xs ?F a c)):=λc hc x _=>oF hs hc
structure N1[?N](n:Nat)(zs ks:?Y)(Ls Gs:?NP)(fs:?cK)(lp rp:?a4u)[?gX]:Prop where
 len:ls.length=n
 z0:zs 0=?Hu/\Ls 0=Lat.one/\Gs 0=Lat.one
 nx:?b9M (zs ?a0=?ahi/\Ls ?a0=(λi=>?afI)/\Gs ?a0=λi=>?a0M ?JK)
 lv:?b9M (?ax7 EH/\?b79 ls ?ql)
abbrev Qs[?N](n:Nat)[?gX](z:Nat)(L G:Lat.Mat):Prop:=∃zs ks Ls Gs fs lp rp,?aBb/\zs n=z/\Ls n=L/\Gs n=G
def Qs.first[?N]:Qs xs 0 [] ?Hu ?nB ?nB :=#[λ_=>?Hu,?dh,?aWq,?aWq,λ_ _=>0,?amX,?amX,#[?h,?abF,?lZ,?lZ],?V,?h]
abbrev IC[?dV](g:?KK)(n:Nat)(a:α):?KK:=λj=>if j=n then a else g j
def Ik[?dV](g:?KK)(n:Nat)(a:α):IC g n a n=a:=?K
def Fe[?dV](g:?KK){n j:Nat}(a:α)(h:j≠n):IC g n a j=g j:=?ad
def Qs.snoc[?u]{n:Nat}[?iv][?u5][?aD][?fd](h:?alK)(b:?atF EH ?aw) : Qs xs ?r (ls++[?atF B7 ?aw]) ?aXG ?ad8 ?aTB:=by have#[?a6l,t,?V,?h]:=h;apply#[IC zs ?r ?aXG,IC ks n k0,IC Ls ?r ?ad8,IC Gs ?r ?aTB,IC fs n f,IC lp n l,IC rp n r,#[?bv,?bf,?bf],Ik ..,Ik ..,Ik ..];{rw[qb6,t.len];rfl};{rw[?KR,?CZ,?E4];show t.z0};{cases e:j=n;{subst e;rw[Ik,Ik,Ik,Ik,Ik];show ?abF};rw[?KR,?aZ8,?CZ,?E4,?aPq];show t.nx j ?dw};cases e:j=n;{subst e;rw[?KR,?CZ,?E4,Ik,Ik,Ik,Ik];show#[b,by rw[qc4 (by rw[t.len];ext eq),t.len,qk3];rfl]};rw[?KR,?CZ,?E4,?aZ8,Fe fs _ e,Fe lp _ e,?aPq];let ?cR:=t.lv j ?dw;show#[h1,by rw[qc5 (by rw[t.len];show ?dw)];show h2]
def Qs.lev[?u]{n:Nat}[?iv]{z:Nat}{L G:Lat.Mat}(h:?alK):∀(j:Nat) ps,?b67 j->?aZu:=λj ps e=>by let#[?a6l,t,_]:=h;ext ap6;show#[?c6,?c6,_,h1,?h]
universe Hb
namespace L2
open PySem PySem.Spec PyProof.Rows
section
variable{X:Cx}[?aR]
universe e9
section
variable{X:Cx}[?E]
universe e9
section
variable{X:Cx}[?aR]
universe e9
structure Fin(B k:Nat)(p:PyData):Prop where
 sh:?auy p.showable
 le:p.shown.length<=B
 dp:p.depth<=k
section
variable[?dO][?bW]
universe e9
section
variable[?dO][?dT][?Lv]
universe e9
universe L2
namespace Hb
open PySem L2
def Rows.drop[?uP]{D C:Addr}[?md]{w k:Nat}[?eo][?pT](hC:?auL H1 C)(h2:H2=?C H1 C (?U (?awT ?anp ?kQ))):?oQ H H2 C ?anp w ?an0:=by
 subst h2;apply#[?QR (?a39 hC),?aZQ hC,Ab,?Xf];rw[qw5]at e;let#[h1,?eM]:=?Cr ?jn a e;let ne:a≠C:=λz=>by rw[z,hC]at h4;cases h4
 show#[h1,ne,by rw[?Bu];show h4]
section
variable[?n]
universe e9
abbrev Ka(H:Hp)(v:V)[?po]:Prop:=∃t a b c,v=?dn/\?b42 (?b1w H/\?auH ?i8/\b≠c)
def Ka.same[?bF][?uF](h:?v2)[?fi]:Ka H' v p:=by let ?ai3:=h;show#[?j3,?aMj,?axb h2,?anN,?axb h4,ne]
abbrev Cd(H:Hp):?asf ?a2 ?g3| [],[]=>True| ?qu,?ln=>?v2/\?sC| _,_=>False
def Cd.same[?bF][?fi]:?aCH| [],[],h=>h| ?qu,?ln,h=>#[h.1.same s,Cd.same s h.2]| [],?bH,h=>h.elim| ?bH,[],h=>h.elim
def Cd.len{H:Hp}:?b5F ?En| [],[],_=>rfl| ?qu,?ln,h=>by rw[qd5,qd5,Cd.len h.2]| [],?bH,h=>h.elim| ?bH,[],h=>h.elim
def Cd.snoc{H:Hp}:∀[?aV][?au][?uF],?sC->?v2->Cd H ?Ms ?a43| [],[],v,p,_,h=>#[h,trivial]| u::vs,q::ps,v,p,h,h2=>#[h.1,Cd.snoc h.2 h2]| [],?bH,_,_,h,_=>h.elim| ?bH,[],_,_,h,_=>h.elim
def Cd.get{H:Hp}:∀[?aV][?au]{i:Nat}{v:V},?sC->?hD->∃p,?vY/\?v2| [],[],i,v,_,e=>?oh| u::vs,q::ps,0,v,h,e=>#[q,?h,by (let:u=v:=?cw);ext er;show h.1]| u::vs,q::ps,?k,v,h,e=>by (let e':?hD:=?cw);let#[p,?Q]:=Cd.get h.2 e';show#[p,?zs,h2]| [],?bH,_,_,h,_=>h.elim| ?bH,[],_,_,h,_=>h.elim
def Ka.put{H:Hp}[?dW]{vs us:?a2}[?uF](h:?v2)(hD:H D=?Fh):Ka (?auf D ?aYc) v p:=by have#[?j3,?Q,?eM,nbc]:=h;(let ne:∀{x:Addr}{o:HO},H x=?Z->(∀ws,o≠?G8)->x≠D:=λ{x o} e h z=>by rw[z,hD]at e;cases e;show h _ ?h);show#[?j3,by rw[?ayf h1];show h1,by rw[?ayf h2];show h2,by rw[?ayf h3];show h3,by rw[?ayf h4];show h4,nbc]
def Cd.put{H:Hp}[?dW]{us0 vD:?a2}(hD:?b4H H D us0):?b5F (Cd (?auf D (?U vD)) vs ps)| [],[],h=>h| ?qu,?ln,h=>#[h.1.put hD,?a31 hD h.2]| [],?bH,h=>h.elim| ?bH,[],h=>h.elim
def OE{k z:Nat}(h:k<=z)[?aI]:?N6++?bh (z-k) ?TN=VI z (?rQ f k):=by apply ?ajR;cases hi:i<k;{rw[qc5 (by rw[Bz];show hi),C7 hi,?Tn];unfold Lat.numAt;rw[?gQ]};rw[qc4 ?nE,Bz];cases hz:i<z;{rw[C7 hz,qp6,?b2r hz];unfold Lat.numAt;rw[?s hi]};rw[qj5 (by rw[qj4];show qn3 (qf4 hz) _),?CX]
def XI(n:Nat)[?aI]:?a0m=?jV:=rfl
def DX[?mo](ha:a.natAbs<?Dj)(hb:b.natAbs<?Dj):?cN a b:=L6 ha hb ?aZd
section
variable[?n]
abbrev FO:Sp:=?asE (X9 λ ?fJ ?ah ?aL ?oH=>Ey ?Nm ?bP ?yC (?b5I b ?f9) (ns.length=?nJ) (?b3g (?i (?b9j (Dd (?X7 ns))))))
abbrev y7:Sp:=λvs H Q _=>Bu6 λ(a tp nm r1 D1 D2 b2:Addr) (vl vg:V) ?ah ?aL (z k0 w:Nat) (L G:Lat.Mat) ?CR ?xz=>As5 (vs=[?R,?f5,?aCx,vl,vg]) ?bP ?dy (w=?zp) (?ash vl (dT z ?ap L)) (?ash vg (dT z ?ap G)) (?atP H z k0) ?a0C ?a2V (k0<=w) ((∀i,?oD->?aC≠0)) (?fX z z ?eW l.1) (?fX z z ?eW l.2) ?aZw ?aLQ (∀[?hq] [?Ac],?b4m ?WV (Cd H' us ?wz))
abbrev Hm[?hq](H:Hp)[?ch][?gX]:Prop:=?avh (?yM/\?Nf)
abbrev Sd(H:Hp)[?ch][?gX]:Prop:=?avh ?Nf
abbrev z6:Sp:=?asE (Ji λ ?cp ?ah=>Di ?sw ?bP ?dF ?dy (∀[?hq] (us:?a2) [?gX] (H':Hp),?bl->?aM->?WV->?aMZ->?a8u->Sd H' us ls->?dB))
universe e9
def one_bits(n m:Nat):?fX n m ?eW ?nB:=λi j _ _=>by let h1:1<?Dj:=?aGd ?aZd;unfold Lat.one;split;{show h1};show qd8 (?L:0<1) h1
def rO[?E]{H:Hp}{v:V}{n:Nat}(h:?ash v (dT n n ?Ry)):?ash v (dT n n ?nB):=by (let e:(λi j:Nat=>?akd)=Lat.one:=by funext i j;unfold Lat.one;cases h:i=j;{rw[?b3,?S9]};rw[?ad,?s ?RE]);rwa [e]at h
def Ag2[?E]{H:Hp}[?ki][?uS]{h w k:Nat}[?eo](hr:?aga)(hl:?KZ)(hC:?asu C (us.drop k)):?ash ?dc (dT (h-k) w ?an0):=by apply MJ hC (by rw[qi7,hl]) ?k0;let e:us[?eN]?=?i (us[?eN]' ?aPk):=qa0 ?aPk;let ?a2s:=hr ?eN _ e;show#[b,by rw[qw5,e,eb],hb]
abbrev A72(us:?a2):Prop:=∀u∈us,∃a,u=?R
def AY[?E]{H:Hp}{D b:Addr}[?hm]{o:HO}(h:?asu b xs)(ne:?Dz):SqL K ?Il b xs:=by rcases h with(h|⟨q,h⟩) | h;{show ?b6B ?Ig};{show ?aud q ?Ig};show ?kD
def ZW[?E]{H:Hp}{D b:Addr}{xs us:?a2}{o:HO}(h:?aw6 H b xs)[?AR]:?aw6 ?Il b xs:=by rcases h with(h|⟨q,h⟩) | h;{(let ne:?Dz:=?aIO);show ?b6B ?Ig};{(let ne:?Dz:=?aIO);show ?aud q ?Ig};show ?kD
def JK[?E]{H:Hp}{D t:Addr}[?uS]{h w:Nat}[?eo]{o:HO}(hr:?ash ?dn ?rt)(ne:t≠D)(hw:0<h->0<w)[?AR](VF:A72 us):?b5W ?Il ?dn ?rt:=by let#[_,tu,ez,hq,hl,Nz]:=J0 hr;cases ez;apply MJ (AY hq ne) hl ?k0;let e:?avL tu (?b6u tu):=?n2;let ?a2s:=Nz i _ e;apply#[b,?anJ,?_];rcases hb with(hb|⟨q,hb⟩) | hb;{apply AY (?b6B hb) ?f3;rw[z,hD]at hb;(let e1:us=?aOB:=by injection hb with e;injection e);let hw':=hw (zc3 hi);(let e2:us[0]?=?i (?t (f i 0)):=by rw[e1];show C7 hw');let ?WT:=VF _ ?aJD;cases hc};{apply AY (?aud q hb) ?f3;rw[z,hD]at hb;cases hb};show ?y hb
structure pQ(D nm r1 D1 D2 b2:Addr):Prop where
 e1:nm≠D
 e2:r1≠D
 e3:D1≠D
 e4:D2≠D
 e5:b2≠D
def Wy.put[?E]{H:Hp}{D tp nm r1 D1 D2 b2:Addr}[?pm][?aD][?fd][?uS]{o:HO}[?arR](ne:?aMw)[?AR](VF:A72 us):?atP ?Il n k :=#[ZW ?I4 hD,AY x.num ne.e1,?az8 ?a4h ne.e2,?az8 ?RV ne.e3,?az8 ?a3R ne.e4,?az8 ?N7 ne.e5]
def EF.ne[?E][?bF]{tp nm r1 D1 D2 b2 D:Addr}[?pm][?aD][?fd]{o:HO}[?arL](hD:H D=?Z):?aMw:=by (let go:∀a,?aFV->?yM:=λa h z=>by let:=(x.new a h).1;rw[z,hD]at this;cases this);show#[go _ ?cB,go _ ?ahX,go _ ?aYv,go _ (?y ?aYv),go _ (?awn (?y ?m4))]
abbrev As4[?n](H:Hp)(a D:Addr)[?N](k:Nat)(σ:St)(G':Hp):Prop :=∃(us:?a2) (ls:?jT) (la ga:Addr) (z:Nat) (L G:Lat.Mat) (o4 o5 o6 o7:?fw),σ=[rS a,rS D,rS la,rS ga,o4,o5,o6,o7]/\?cq H G'/\G' D=?hL/\ls.length=k/\?b5p k/\Hm D G' us ls/\la≠D/\ga≠D ∧ ?b5W G' ?a4m (dT z ?hT L)/\?b5W G' (?I ga) (dT z ?hT G)/\Lat.Lev (?azs (?aL-1)) ?hT z (Pt xs ?aL) L G/\z<=?hT/\?axl ?hT L/\?axl ?hT G
def Hm.out[?dW]{H:Hp}[?aV][?iv][?MN]:?aaB :=(?b5k #[?kk,_,?Q] ?aBC)
def Hm.same[?dW][?bF][?aV][?iv][?MN][?fi]:Hm D H' vs ls :=(?b5k ?aKa #[?kk,n,?aMj,h2.same s])
def Hm.refs[?dW]{H:Hp}[?aV][?iv][?MN]:A72 vs:=λu hu=>by let ?xk:=qi1 hu;let hl:=?nC;let h0:=h.1;let#[a,_,e,_]:=h.2 i u _ hi ?n2;show#[a,e]
def Hm.snoc{D E:Addr}{H:Hp}{vs eu:?a2}[?iv][?au][?MN](hD:H D=?Fh)(ne:E≠D)(hE:?b4H H E eu)(r:Cd H eu ps):Hm D (?auf D (?U ?a9b)) ?a9b (ls++[ps]):=by apply#[by rw[qb6,qb6,h.1];rfl,λi v qs e1 e2=>?_];let h0:=h.1;ext M4;{rw[?Pr]at e1;rw[?tT]at e2;apply ?eX;let ?aKa:=?ay2 i v qs;apply ?ej;show#[?kk,n,by rw[Aj n];show h1,?a31 hD h2]};ext aoP;(let q1:v=?I E:=?ais);(let q2:qs=ps:=?aLs);subst q1 q2;show#[E,eu,?h,ne,by rw[?Bu];show hE,?a31 hD r]
universe Hb
namespace L2
open PySem PySem.Spec PyProof.Rows PySem.SeqAt
section
variable[?Mo][?E]
universe e9
universe L2
namespace Hb
open PySem L2
abbrev noB[?br]:?g3:=?b11 ps.filter ?aUm
def lM[?br][?po]:noB ?a43=if ?qK then ?c9 else ?c9++[p]:=by unfold noB;rw[qj1];cases h:?qK;{rw[?b3,ql8,?s ?lX,qt5,qt6]};rw[?ad,ql8,?A ?lX,qt5]
abbrev lift1(fl:Ms)[?eK](g:?ds):?ol:=lf.set ?QO (Ff (?b6n ?QO) (Iq g.2 fl))
abbrev T9[?eK][?po]:?ol:=if ?qK then p.2.2.1.foldl (lift1 ?i8) lf else lf
abbrev L7[?eK][?br]:?ol:=?a8V T9 lf
abbrev liftsB(n:Nat)[?gX]:?ol:=?aBa L7 ?aFX
structure Dh(ms:Ms):Prop where
 n:?fv
 z:?J8
 k:?yk
def Dh.nil:Dh []:=#[qr8,?aP7,?aP7]
def Dh.len{ms:Ms}(h:Dh ms):?afV:=by (let:=IZ (?bY λ(p:?ds)=>?v) (PY 40) h.n λx hx=>by let ?GX:=?cD hx;let:=?b7u h.k;unfold PY;show ?KN #[?Jl,?tj ?g,?g]);rwa [qa3,U6]at this
def dG{ms:Ms}{j:Int}(h:?yI≠0):j∈?bY (·.1):=by cases e:j∈?bY (·.1);{show e};show ?X (Fp e) h
def Dh.plus[?a6H]:Dh ?i6:=by let#[r1,r2,_,r4]:=?aTU;apply#[r1,r2,?eI];let e:=Ef r1 hp;(let e2:An ?i6 ?v=p.2:=by unfold An;rw[e];rfl);let hz:=?b7u r2;rw[←e2,r4]at hz;(let:?v∈?bY (·.1)\/?v∈?ko (·.1):=by cases q:?RQ=0;{show ?y (dG ?g)};show ?x (dG q));rcases this with h | h;{let ?aV7:=?Ey;rw[←eq];show h1.k q hq};let ?aV7:=?Ey;rw[←eq];show h2.k q hq
private def Dh.times{ms:Ms}(h:Dh ms)(n:Int):Dh ?vj:=by unfold Iq;split;{show Dh.nil};rename_i hn;apply#[?_,?eI,?eI];{let:=h.n;unfold nd at this ⊢;rw[qk7];show this};{let ?Tu:=?kP;show ?al3 hn (h.z q hq)};let ?Tu:=?kP;show h.k q hq
abbrev Ij(n:Nat)[?eK]:Prop:=lf.length=n/\∀m∈lf,Dh m
def Ij.at{n:Nat}[?dr](h:?lB)(i:Nat):Dh ?aMN:=by rw[qa1];cases e:lf[i]? with| none=>show Dh.nil| some m=>show h.2 m ?vm
def Ij.lift1{n:Nat}[?dr][?arN]:Ij n ?aZ1:=by apply#[by unfold Hb.lift1;rw[ql6];show h.1,?ok];rcases qr9 hm with q | rfl;{show h.2 m q};show(h.at _).plus (hf.times _)
def Ij.go{n:Nat}{fl:Ms}(hf:Dh fl):?b9O (Ij n (?aYb (Hb.lift1 fl) lf))| [],_,h=>h| g::gs,_,h=>Ij.go hf gs ?aBR
structure Pi(n:Nat)[?po]:Prop where
 gk:∀g∈?iL,?Ni
 fl:Dh ?i8
 mul:∀g∈?iL,∀q∈?i8,?cN g.2 q.2
abbrev Fy(O H:Hp)[?ch][?eK]:Prop:=?ayW lf.length/\∀(i:Nat) v,?hD->∃c,v=?hQ/\?wN/\?auH ?aMN
def Ij.part{n:Nat}[?dr][?arz]:Ij n ?VM:=by unfold T9;split;{show Ij.go hp.fl _ h};show h
def Ij.parts{n:Nat}:∀[?au][?dr],?lB->(∀p∈ps,?Xd)->Ij n ?RK| [],_,h,_=>h| ?ln,_,h,hp=>Ij.parts (ps:=ps) (h.part ?aNE) (?b82 hp)
def Ij.first(n:Nat):Ij n ?aFX:=#[qj4 ..,?axA (by rw[(?We hm).2];show Dh.nil)]
def Fy.same[?uR][?aV][?dr](h:?Sm)[?fi]:?aUf :=(?axN (s _ _ e2))
def Fy.keep[?uR][?aV][?dr](h:?Sm)(s:∀c kvs,?wN->H c=?zD->H' c=?zD):?aUf :=(?axN (s _ _ e0 e2))
def Fy.snoc{O H:Hp}[?aV][?dr][?apn]:Fy O H (vs++[?hQ]) (lf++[m]):=by let h0:=h.1;apply#[?a0h,λi v ei=>?_];rw[qa1];ext M4;{rw[?Pr]at ei;rw[?tT,←qa1];show h.2 i v ei};let hi2:=(?bi ei).1;rw[qb6,qi3]at hi2;let eq:?alH:=?g;subst eq;rw[?qq,qk3]at ei;rw[h0,?qq,qk3];(let q1:v=?hQ:=by simpa using ei.symm);show ?ahc
def Fy.set{O H:Hp}[?aV][?dr][?apn](i:Nat):Fy O H (vs.set i ?hQ) (lf.set i m):=by let h0:=h.1;apply#[by rw[ql6,ql6,h0],λj v ej=>?_];rw[qa1];cases q:i=j;{subst q;let hl:=(?bi ej).1;rw[ql6]at hl;rw[qt7 hl]at ej;rw[qt7 ?g];(let q1:v=?hQ:=by simpa using ej.symm);show ?ahc};rw[qo8 q]at ej;rw[qo8 q,←qa1];show h.2 j v ej
abbrev M4[?d0]:Sp:=?asE (Kz λ ?cp ?or ?PK=>Di ?sw ?Ci ?aCf (?b88 1000) (∀[?hq] (us':?a2) (H':Hp),?b4m (?gH=?ZI) (Cd H' us' ?c9)))
abbrev y8[?n]:Sp:=?asE (X9 λ ?fJ ?ah ?or ?op=>Lj ?iU ?bP ?dy (H b=?hL) (Sd H us ls) ?aec (∀[?hq] (ws:?a2) (H':Hp),?b4m (?gH=?i ?G8) (Fy H H' ws ?rM)))
def Vf(n:Nat):?SX:=?TE
def uN[?u][?kd](h:?qG):?ayI DI xs (tI p):=by (let bl:∀f∈p,∃q,?a0z/\?sL=q/\?axO f.toNat/\q.length-1+1=?Im:=?axY (by have ?O6:=?aFR;have#[hlt,_]:=?bi e;show#[q,e,by rw[qa1,e];rfl,hlt,l]));exact ?ayI DI xs (?b5 (Ek p));rw[Vj];(let hl:(Ek p).length=p.length:=by simp[Ek]);rw[hl];simp only[qc2,qw1];apply#[#[?_,?_],?_];{rcases h.cnt with e | e | e | e<;>rw[e]<;>rfl};{rw[qe3];intro d hd;apply ?eX;let ?a2p:=?cD hd;let#[q,e,eq,hlt,l]:=bl f hf;apply ?ej;let h0:=?fc f hf;exact ?auy (?w ?il&&?w ?Ep&&?w (Ci ?Vx=Ci ?UI-1));rw[eq,Vf,Vf];simp only[qc2,qq9];ext d};cases h3:?aTy;{right;(let e0:(Ek p).map toI=p:=by unfold Ek;rw[qk7];show ?aZU p);rw[e0];unfold Ph;rw[qe3];intro j hj;rw[qe3];intro i hi;let hj:=?yi hj;let hi:=?gy;unfold Zw;rw[qq9];let ej:?JC=?i p[j]:=?gr;let ei:?H0=?i ?Rz:=qa0 ?aWM;apply ?eX;let#[q,?cc,_]:=bl p[j] ?acK;let#[r,e3,e4,_]:=bl ?Rz ?ji;apply ?ej;let key:=?w0 h3 i j _ _ q r hi ej ei e1 e3;rw[show ?Ih=p[j] by rw[qa1,ej];rfl,show ?Hs=?Rz by rw[qa1,ei];rfl,e2,e4,qa1,qa1,key]};left;rw[Vf];ext fm
def Mu[?u]{k:Int}[?ep][?uE](h:q∈?iX):?s0/\∃c,c<?ap/\q.2=v c:=by let ?cR:=Zp h;let h3:=Cn h1;let ?aY3:=?cD h2;show#[#[h3.1,h3.2.1],c,?yi hc,?lL]
def Nr[?u][?eJ][?MD]:Dh ?iX:=by apply#[?_,?lY,?lY];{let:=mY (sp:=?dx) (ns:=?C5) ?a4H ?NG;unfold nd at this ⊢;show this.sublist (qy7 _ (qv7 ..))};{let:=(?jx hq).2;simpa using this};let:=?al5;ext d
private def Oj.ok[?u]{k:Int}[?au][?Ap][?eJ]:?aXi:=by ext a67;intro p hp;let ?eO:=?kP;let hi:=?gy;ext ar7;apply#[λg hg=>(Mu hg).1,?_,λg hg q hq=>?_];{exact Dh ?rp;split;{show Dh.nil};show ?rh};let ?amH:=Mu hg;replace hq:q∈?rp:=hq;split at hq;{cases hq};rename_i e0;(let hik:?oD:=by cases hh:?oD;{show hh};unfold Lat.numAt at e0;rw[?s hh]at e0;show ?X ?h e0);let#[_,d,hd,e2]:=Mu hq;(let h1:(?e6 z l.1 G i c).natAbs<?H8:=Sa λj hj=>by rw[qb7,qf2];show ?b5w ?Jg ?Kg);let h2:=?aiK i d ?abX hd;rw[e,e2];show L6 h1 h2 ?acD
def Cd.kd[?bF](s:∀c o,?an4):?aCH| [],[],h=>h| ?qu,?ln,h=>by have#[?ai3,h5]:=h;show#[#[?j3,s _ _ h1 ?aLI,s _ _ h2 ?tY,s _ _ h3 ?tY,s _ _ h4 ?tY,ne],Cd.kd s h5]| [],?bH,h=>h.elim| ?bH,[],h=>h.elim
def Oj.len[?u]{k:Int}[?au][?Ap][?eJ]:?b88 40:=by have ?amz:=h;unfold B7;rw[qa3,ql2];show ?Xm
abbrev UG(H:Hp)(d:Addr):Hp:=λa=>if a=d then none else ?b0
def Od{H:Hp}{c d:Addr}(h:c≠d):UG H d c=H c:=?ad
def QZ{H:Hp}{d:Addr}:UG H d d=none:=?K
def uG{H:Hp}{d:Addr}:?cq ?aXI H:=λc o e=>by cases h:c=d;{rw[h,QZ]at e;cases e};rwa [Od h]at e
def xX{O H:Hp}{d:Addr}(s:?aRh)(h:?auL O d):?cq O ?aXI:=λc o e=>by rw[Od ?HZ];show s c o e
structure BookAt[?n][?ca](B:Hp)(p:Addr)[?N][?gX]:Prop where
 ob:SM λdx P Lv Lf lu wu=>B p=?b4P C [("pieces",?I P),("levels",?I Lv),("lifts",?I Lf)]/\Di (LT K B (?I P) xs) (?b4H B Lv lu) (Sd B lu ?Jo) (B Lf=?PJ) (Fy ?fM B wu ?rM)
 sh:?dF
 len:?dy
 n4:?aMZ
 lev:∀(k:Nat) ps,?ot->?ayS Oj ps
 tie:?a8u
abbrev QD[?n]:Sp:=?asE (Ji λ ?e8 ?ah=>Bv ?FM ?Vz ?dy ?JH)
abbrev BS[?n]:Sp:=?asE (?b4r ?aEP)
abbrev Yg[?n]:Sp:=?asE (?b4r ?k6)
abbrev kK[?n][?ca]:Sp:=?asE (SM λ(p dx a:Addr) ?or ?hy ?ah=>SO (?b9G ?R) ?aO2 ?Ci (?b96 H0) ?sf (H0 a=none) ?DB ?dF ?dy (∀(B:Hp) [?gX] (H':Hp),?JL->?jz->?cq H0 B->?cq B H'->B a=none->?dm))
abbrev Sc(O H:Hp)(v:V)[?po]:Prop:=∃t a b c,v=?dn/\(?auL O t/\?auL O a/\?aGk/\?wN)/\?b42 (?b1w H/\?auH ?i8)
def Sc.kd[?uR][?uF](h:?BG)[?apR]:Sc O H' v p:=by let#[?j3,?aHZ,?Q,?eM]:=h;show#[?j3,?aHZ,s _ _ n1 h1 ?aLI,s _ _ n2 h2 ?tY,s _ _ n3 h3 ?tY,s _ _ n4 h4 ?tY]
abbrev Dt(O H:Hp)[?ch][?br]:Prop:=?En/\∀(i:Nat) v p,?hD->?vY->?BG
def Dt.kd[?uR][?aV][?au][?MM][?apR]:?aBI :=(?b5Z ((?Yo).kd s))
def Dt.same[?uR][?aV][?au][?MM][?fi]:?aBI:=h.kd λc o _ e _=>s c o e
def Sc.put{O H:Hp}[?dW]{us ws:?a2}[?uF](h:?BG)[?AR]:Sc O ?aAy v p:=h.kd λc o _ e ho=>by rw[Aj ?f3];{show e};rw[z,hD]at e;cases e;rcases ho with⟨_,q⟩|⟨_,q⟩<;>cases q
def Dt.put{O H:Hp}[?dW]{us ws vs:?a2}[?au][?MM][?AR]:?b2i ?aAy:=(?b5Z ((?Yo).put hD))
def Dt.snoc{O H:Hp}[?aV][?au][?uF][?MM](hp:?BG):Dt O H ?Ms ?a43:=by let h0:=h.1;apply#[?a0h,λi u q e1 e2=>?_];ext M4;{rw[?Pr]at e1;rw[?tT]at e2;show ?ay2 i u q};ext aoP;(let q1:u=v:=?ais);(let q2:q=p:=?aLs);subst q1 q2;show hp
def Sd.at{H:Hp}[?aV][?iv]{k:Nat}(h:?aaB)(hk:k<ls.length):∃a us ps,vs[k]?=?OX/\?ot/\?Nf:=by let h0:=h.1;let e1:vs[k]?=?i (vs[k]' ?g):=?n2;let e2:ls[k]?=?i ls[k]:=qa0 hk;have ?aBC:=?ay2 k _ _;show#[a,us,_,by rw[e1,e],e2,?Q]
abbrev Z9[?n][?ca]:Sp:=?asE (?b3e ?eB (∀[?br] [?hq] [?Ac],?a1B->?bl->?aM->?WV->Dt H H' us ?c9->?dB))
universe Hb
namespace L2
open PySem PySem.Spec PyProof.Rows PySem.SeqAt
section
variable{X:Cx}
def Zs:?asW ?qo (∃a vs,?b85 ?iP (?i ?aKV)):=by ext el;ext apP;let#[_,its,_,ob,ho,hc,_]:=(?auk (?b7T ?aKV) ?aLX);show PySem.IsiPair.tuple_tuple ho hc ?Ti
def R8:?asW ?qo (∃a vs,?b85 ?eH ?Fh):=by ext el;ext apP;let#[_,its,m,_,ho]:=(?auk (?b7T ?aJ4) ?aLX);show PySem.IsiPair.list_list ho ?h ?Ti
universe e9
universe L2
namespace Hb
open PySem L2
abbrev EJ(ms:Ms)[?ix]:?wv| 0=>ms| ?a0=>?aVP
abbrev Qz[?N](ms:Ms):?wv| 0=>[]| ?k=>?b8T EJ ?p6
def MC(ms:Ms)(k v j:Int):An ?gg j=if j=k then v else ?yI:=by unfold An;rw[gA];ext ho
def RC(ms:Ms)[?pf](n k:Int):∀j,?b77 ?ku ?Em n| 0=>by simp[EJ,Ir]| ?a0=>by let ih:=RC ms fs n k j;exact ?b77 ?aVP (if ?ny=k then ?HX-2*?uo else ?Em) n;rw[MC];cases h:?ny=k;{rw[?S9,?b3,h,ih];unfold AZ;cases h2:?uo=0;{rw[?lj,h2];rw[?asC (?HX-2*0=?HX),qu1];ext d};let h3:?uo=1:=?g;rw[?gp,h3];rw[?asC (?HX-2*1=?Em+-1),qu1];ext d};rw[?a1T,?ad];show ih
def OG[?dq][?ix]:∀j,nd ?ku| 0=>h| ?a0=>oH ?aCt _ _
def IY(ms:Ms)[?ix]:∀j,?asa ?ku (?b5S j)| 0=>?l| ?a0=>by let h1:=?b34 IY j;let h2:=iZ ?ku ?ny ?aC5;exact ?asa ?Sw _;ext d
def iU[?N](ms:Ms):∀i,nd ?p6| 0=>qr8| ?k=>OG (?b1v iU) _ _ _
def iY[?u][?mU](ms:Ms):?b1y ?p6| 0=>?l| ?k=>by let h1:=iY h4 ms i;let h2:=?b8T IY ?p6;(let h3:?wQ<=4:=by rw[qa1];cases e:?b3E ?Ss with| none=>exact(0:Nat)<=4;(ext d)| some x=>show ?a2O);exact(?b8R EJ _).length<=_;ext d
def BJ[?N](ms:Ms)(y:Int):∀i,An ?p6 y=An ?h6 y| 0=>rfl| ?k=>by exact An (EJ ?p6 _ _ _) y=An (Jh ?h6 _ _ _) y;rw[RC,GO,BJ xs ms y i]
def NV[?u][?ay]{k:Int}[?ep][?aqC](e:Int):?alN=0:=by ext a5W;cases he:e∈?xI;{let ?afM:=qg8 he;let:=h0 x hx;exact ?ag9=0;rw[MN hl];apply ?tI ?_ ?P;unfold Lat.mulV;apply ?Ko;unfold Pt;rw[show ?a3B=e by rw[qa1,qa0 hx,ex];rfl,?Xx]};ext ao0
def Ag5{ms:Ms}(hn:?fv)(h:∀e,An ms e=0):?mI=[]:=by
 unfold Dd;rw[qy9];intro p hp;let e1:?RQ=p.2:=?auE hn hp
 rw[h]at e1;simp[←e1]
def TL[?u][?ay]{k:Int}[?ep][?aqC]:?b47 ?iX ((?iX).length)=[] :=Ag5 (?ayq iU) λe=>by rw[BJ];show NV hs h0 e
def uL[?u]{k:Int}{u v:?J}:wF ?aF7 ?iX=?ast (u c*v c) ?ap:=by ext a5W;(ext app);let hz:=nA ?aF7 hl _ ?l;rw[qi6 ?iK]at hz;exact wF _ ?ZC=_;rw[iA,hz];apply ?Ko;let hb:=?aH7;(let e1:An ?o6 ?nz=u j:=by (ext aof);ext aqa);rw[e1,?Xx]
structure Z1[?N](k:Int)(ms:Ms):Prop where
 len:?afV
 part:∀q∈ms,?s0/\?b9i ?P4/\q.2≠0
structure zH[?N](k:Int)[?po]:Prop where
 lp:?b0d (p.2.1)
 gg:?b0d ?iL
 fl:Z1 xs ?F ?i8
 no:?qe->?i8=[]
 nn:?qD
 n1:?aUm
abbrev Bt5(p q:BPart):Prop:=(?qe->q.1=0)/\(0<?v->q.1%?v=0)
structure sM[?N](k:Int)[?br]:Prop where
 one:∀p∈ps,?af7
 ord:ps.Pairwise Bt5
structure mS[?N][?br]:Prop where
 rnd:∀p∈ps,?b47 (p.2.1) (p.2.1.length)=[]
 mul:∀p∈ps,∀q∈ps,∀t∈q.2.1,?b7V (An ?iL t.1)
 dual:∀(i j:Nat) p q,?vY->ps[j]?=?e2->wF ?aAD q.2.1=?lm
abbrev V6[?br](i:Nat):Int:=(?c7::?io λp=>?v).getD i 1
def cW[?au]{i:Nat}{p:BPart}(h:?vY):V6 ps ?k=?v:=by unfold V6;rw[List.getD_cons_succ,qa1,qa6,h];rfl
def XO[?au](h:ps.Pairwise Bt5)(hn:∀p∈ps,?qD){i:Nat}{p:BPart}(e:?vY):0<=?Ie/\(?Ie=0->?qe)/\(0<?Ie->?v%?Ie=0):=by cases i with| zero =>let e0:V6 ps 0=1:=rfl;rw[e0];show#[?L,?a8D,λ_=>Int.emod_one _]| succ i =>let#[hl,?h]:=?bi e;let e1:?Cv=?i (?b6u ps):=?n2;rw[cW e1];let:=?a2P h i ?k ?g hl ?g;show#[hn _ ?ji,?oB,?Q3]
abbrev S8[?d0]:Sp:=?asE (Ji λ ?cp ?hx=>Bv ?sw ?oo ?om (?b6k ?mI))
abbrev Mg[?n]:Sp:=?asE (Sx (?b8r (?b53 100) (∀q∈ms,?s0) (OF H ?YS Q)))
abbrev N3[?n]:Sp:=?asE (?b8m (Z1 xs k ms) ?k6)
abbrev Z8[?d0]:Sp:=?asE (Sx λ(g c:Addr) (gs cs:Ms)=>Di (vs=[?Wz,?hQ]) (?b93 g gs) (?b93 c cs) ((∀t∈cs,?b7V (An gs t.1))) (?b3o (?t (wF (An gs) cs))))
def PF[?u][?eJ][?MD]:?b0d ?iX :=#[(?TI).len,?axy #[?al5,(Cn (Zp hq).1).2.2,(?TI).z q hq]]
def Z1.nil[?N](k:Int):?b0d []:=#[?a5,?axy (by cases hq)]
abbrev QV[?aI](k0 z:Nat):?a6 Nat:=(?dz z).filter λi=>?w ?aVN
def QN[?N][?Ld][?aI][?iu]:noB ?wz=?awT ?a1t ?adU:=by unfold noB B7 QV;rw[qv8];rfl
def Qc[?aD]{k0 z i:Nat}(h:i∈?a1t):i<z/\?aVN:=by let:=?jx h;show#[?yi ?oB,qc9 ?Q3]
def lV[?aI](k0 z:Nat):(?a1t).Pairwise (·<·):=?aUx _ List.pairwise_lt_range
private def oE[?aD]{k0 i:Nat}(h:?a7G):0<=?fI:=by unfold Lat.numAt;split;{rename_i q;show qh8 (h i q)};show zb1 0
def Ad4[?aD]{k0 i j:Nat}(h:?a7G)(ch:?akH)(hij:?co):(?fI=0->?aIs=0)/\(0<?fI->?aIs%?fI=0):=by unfold Lat.numAt;cases hj:j<k0;{let hi:?oD:=?g;let:=h i hi;rw[?nk,?gQ];show#[?ak8,λ_=>Int.emod_eq_zero_of_dvd (ch i j hi hij hj)]};rw[?xK];show#[?Ex,λ_=>Int.zero_emod _]
def Oj.holes[?u]{k:Int}[?au][?Ap][?eJ]:sM xs k ?c9:=by ext a67;rw[QN];apply#[?eI,?_];{let ?eO:=?kP;let#[hz,h1]:=Qc hi;apply#[?VJ,?VJ,?_,λe=>?_,oE ?Iv,h1];{exact Z1 xs ?F ?rp;split;{show Z1.nil _ _};show ?VJ};exact ?rp=[];show ?cF};rw[qx3];show(?aVo).imp λhij=>Ad4 ?Iv bl.ch hij
def Oj.rounds[?u]{k:Int}[?au][?Ap][?ay][?eJ]:mS xs ?c9:=by ext a67;rw[QN];ext ar7;(let bits:∀(P M:Lat.Mat),?axl z P->?axl ?ap M->?b2M z (c<?ap->(?e6 z P M i c).natAbs<?H8):=λP M h1 h2 i c hi hc=>?b9L Sa);apply#[?eI,λp hp q hq t ht=>?_,λa b p q e1 e2=>?_];{let ?eO:=?kP;show TL hs (bl.lev.round i)};{let ?eO:=?kP;let ?Nq:=?cD hq;let ?amH:=Mu ht;(let b2:?aGe<?H8:=by rw[e];show ?s8 _ _ ?Od bl.bL j c (Qc hj).1 hc);(let b1:(An ?Kt t.1).natAbs<?H8:=by unfold An;cases eL:?cz ?Kt t.1 with| none=>show ?y0| some v =>let#[_,d,hd,ed]:=Mu (Mx eL);exact v.natAbs<_;rw[show v=_ from ed];show ?s8 _ _ ?Jg ?Kg i d (Qc hi).1 hd);show ?aHw};rw[qa6]at e1 e2;let ?eO:=?QX e1;let ?Nq:=?QX e2;let hi':=(Qc ?tD).1;let hj':=(Qc ?qO).1;exact wF ?aKA (?b0i j)=_;rw[uL,bl.lev.gauge bl.fin.dg.dl hi' hj'];let nd1:=?a2P ?aVo;let#[la,ea]:=?bi hi;let#[lb,eb]:=?bi hj;(let:i=j↔a=b:=by constructor;{intro e;rcases qn7 a b with h | h | h;{let:=nd1 a b la lb h;ext d};{show h};let:=nd1 b a lb la h;ext d};intro e;subst e;show qb1 (hi.symm.trans hj));cases q:a=b;{rw[?fF,?A (this.mpr q)]};rw[?dI,?b8D q this.mp]
universe Hb
namespace L2
open PySem PySem.Spec PyProof.Rows
abbrev xS:Expr->?fA| ?wn ?aX _ _=>?vA| _=>none
abbrev cZ:?dD->?fW ?O| []=>?i []| ?ez=>match xS e,cZ es with| ?vA,?i is=>?i (i::is)| _,_=>none
abbrev Ak3[?ga]:TA:=?axu ?f9
private def qK{X:Cx}:∀[?dR][?hg],?aaX->PA X es ?aa5| [],ns,h=>by cases h;show Ac| ?ez,ns,h=>by unfold cZ at h;cases e1:xS e with| none=>rw[e1]at h;cases h| some i =>cases e2:cZ es with| none=>rw[e1,e2]at h;cases h| some is =>rw[e1,e2]at h;cases h;unfold xS at e1;split at e1;(case h_2=>cases e1);case h_1 =>cases e1;show Aa Ah (qK e2)
structure PAw(X:Cx)(es:?dD)(t:TA):Prop where
 h:?Cy
def WO{X:Cx}[?dR][?hg](h:?aaX):PAw X es ?aa5:=#[qK h]
structure PEw[?MX](t:TE):Prop where
 h:?Vn
def Ab9{X:Cx}[?E]{sl:Expr}[?dR]{k:Nat}{p q:Pos}{ta:TA}{tsl:TE}(ha:PAw X es ta)(hsl:?au2 sl tsl)(hpi:RZ sl)[?bJ] : PEw X (?rZ (?w4 es k p) sl q) (tOp ?aTm (Be3 ta) tsl):=by subst hK;show#[Ax Bb (Cw ha.h) hsl hpi]
universe L2
namespace Hb
open PySem L2
abbrev aX[?br]:Nat:=(?b11 ?a8y ?qe).length
abbrev twH[?br]:?O:=(?b11 ?a8y ?aml).map (·.1)
def JO[?u]{k:Int}[?u5][?aD][?fd](h:?a2V):?aBm (·.1)=Ic k0 f++?bh ?Xk 0:=by unfold B7 Ic;rw[qk7];apply ?ajR;rw[qa6];cases hi:?oD;{rw[qc5 (by rw[qa3,ql2];show hi),qa6,qp7 hi,qp7 ?g];exact ?i ?fI=?i ?aC;unfold Lat.numAt;rw[?gQ]};rw[qc4 (by rw[qa3,ql2];ext d),qa3,ql2,qp6];cases hz:i<z;{rw[qp7 hz,?b2r hz];exact ?i ?fI=?i 0;unfold Lat.numAt;rw[?s hi]};rw[qj5 (by rw[ql2];ext d),?z];rfl
def US[?br]:?a01=((?io (·.1)).filter ?aUl).length:=by unfold aX noB;rw[List.filter_filter,qv8,qa3];congr 1;apply qx5 ?a2K;cases h:?qe;{simp[h]};simp[h]
def VU[?br]:?Qh=(?io (·.1)).filter ?aJc:=by unfold twH noB;rw[List.filter_filter,qv8];congr 1;apply qx5 ?a2K;cases h:?qe<;>cases h1:?qK<;>simp[h,h1]
def EH.count[?u]{j:Int}[?u5][?aD][?fd](b:?a8j):aX ?aOd=?Xk:=by rw[US,?S1,qj1,qb6];(let e1:?a9F ?aUl=[]:=qy9.mpr λn hn=>by ext apu;ext fm);rw[e1,?aiY,qj4,qj9,qu4]
def EH.twist[?u]{j:Int}[?u5][?aD][?fd](b:?a8j):twH ?aOd=?a9F λn=>?w (1<n):=by rw[VU,?S1,qj1];(let e1:(?bh ?Xk ?cu).filter ?aJc=[]:=qy9.mpr λn hn=>?ayb ?aG1);rw[e1,qt6];apply qx5 λn hn=>?_;ext apu;cases h:1<?aC;{rw[qf0 h,qf0 ?g]};rw[?HD,?P8]
abbrev nL(ns:LLInt):D:=?U (?ko λn=>?U (Ek n))
section
variable[?n]
abbrev fS[?ca]:Sp:=?asE (?b3e ?eB (∀[?br] (H':Hp),?a1B->?aM->?b9D (?t ((?a01:Nat):Int))))
abbrev bW[?ca]:Sp:=?asE (?b3e ?eB (∀[?br] [?ma],?a1B->?b95 (?U ((?Qh).map ?aB))))
abbrev qE:Sp:=?asE (Kz λ ?a9U ?oH ?p2=>Bv (vs=[?hQ,?t m]) (?b5I c ?f9) ?zW (?b3z xs.length ns.length))
universe e9
universe Hb
namespace Lat
open Hb
universe Lat
namespace Hb
open PySem L2
structure zI where
 d:Int
 r:?cy
 g:?cy
 h:?cy
 f:?cy
abbrev jZ(F:?Ug):?a6 zI->Int| []=>0| c::cs=>F c+jZ F cs
def JY(F:?Ug):∀cs ds,?a8K=jZ F cs+jZ F ds| [],ds=>(qk8 _).symm| c::cs,ds=>by exact F c+?a8K=F c+jZ F cs+jZ F ds;rw[JY F cs ds,ql9]
def vZ(F:?Ug)(C:?ayu zI):∀n,jZ F (?yo C)=?asS (F (C i)) n| 0=>rfl| ?r=>by rw[ql5,qb2,JY,vZ F C n];exact _+(F (C n)+0)=_+_;rw[qe5]
abbrev wB[?aZ]:?O->Int| []=>0| f::fs=>?aWO
def VS[?aZ]:∀fs:?O,?aYE=?aCO| []=>rfl| f::fs=>by exact ?aWO=?asS (?o7*φ (?amd i 0)) ?aEL;rw[Lat.sumN_fst,VS φ fs];(let e:?asU (sg ?a0*φ (?amd ?a0 0)) ?sd=-1*?aCO:=by rw[←Bd];ext Ae;exact sg ?k*φ ?g5=-1*?a3h;(let:sg ?k=-1*?o7:=by unfold sg;ext d);rw[this,qe9]);rw[e];exact _=sg 0*φ f+_;(let:sg 0=1:=?L);rw[this];ext d
def Ax0[?pf](e:Int):?a3C=wB (λx=>uC x e) fs:=by rw[VS];show lJ fs e ?sd where lJ [?Ay] (f:Int):∀n,?V9=?asS (?o7*uC ?af1 f) n| 0=>rfl| ?r=>by let e:=lJ q f n;exact(if ?a3X=f then ?V9+1-2*(?aw%2) else ?V9)=?si+sg n*uC ?a3X f;rw[←e];unfold uC sg;cases h:?a3X=f;{rw[?b3,?b3];ext d};rw[?ad,?ad];ext d
abbrev bl[?N](k:Int)(g f:?cy):Int:=?j (λq=>if Ci (?WX).length=k then f (q:Int)*wB g ?WX else 0) ?be
def BQ[?N](k:Int)(F:?cy):∀n,?j (λb=>F (?b6r ?EK b)) ?J9=?aU7| 0=>rfl| ?r=>by exact _=?aU7+(if ?Iq then F ?aw else 0);rw[←BQ xs k F n];cases h:?Iq;{rw[?b3,kY h,qb6];exact ?j _ ?J9+F (?b6r ?aUY ?J9)=_;congr 1;{apply Ag ?d9;rw[qa1,qc5 hb,←qa1]};rw[qa1,?qq,qk3];rfl};rw[?ad,QI h,qe5]
universe Hb
namespace Lat
open Hb
universe Lat
namespace Hb
open PySem L2
def ix[?u]{k q:Int}(h:?EW):∃c,c<?ap/\?aeO=q:=by let ?aY3:=qg8 h;show#[c,hc,by rw[qa1,qa0 hc,Option.getD_some,e]]
universe Hb
namespace Lat
open Hb
section
variable[?arT][?aD]
def turn_sum(il:?TQ)(c d:Nat):?aFc=?asV (?q2*L a d) z:=by (let e1:?aFc=?asS (?j (λa=>?b3x ?aUV) z) z:=?b5U (by exact ?asU (?l0*G j c) z*?asU (PB i j*L j d) z=_;rw[←Dw];apply ?Qe;rw[←Bd];show ?a23));rw[e1,Cf];apply Ag ?wF;rw[Cf];(let e2:∀b,b<z->?asS ?aUV z=?aBY*?ajD:=?avr (by rw[Dw];congr 1;show il b a hb ha));rw[Ag e2,?ak ha λb _ ne=>by rw[?gj,qg0],?K,qe2]
def gauge_edge[?a5u](ir:?a50){i c:Nat}(hi:i<z)(hc:?a1):?aPU=numAt f k i*QB i c:=by (let e1:∀c',?qH=?asU (?l0*?aB4) z:=λc'=>by (let:?qH=?b7Q ?l0 ?T7 m:=Ag λa _=>by exact ?asU (?l0*?yK) z*?T7=_;rw[←Dw];show ?S0);ext kf;show ?a5C);(let e2:∀y,y<w->?a05=?ae0:=λy hy=>by rw[←?b7c dg.diag y hy];unfold Sw;(let:?b9m ?a05 (λc'=>?asU (?l0*(?aB4*?a3Y)) z):=Ag λc' _=>by rw[e1,←Dw];show ?S0);ext kf;show ?awm ?va);(let e3:?aPU=?Fb:=by (let h1:?Fb=?al0:=by (let:?b9m ?Fb (λy=>?avl ?aOl):=Ag λy _=>by rw[←Dw];show Ag λc' _=>?b9);ext kf;show Ag λc' _=>?va);rw[h1];let h2:∀c',c'<w->?a8L=?aMH:=λc' hc'=>ir c c' hc hc';(let h3:?al0=?avl ?aMH:=Ag λc' hc'=>by rw[h2 c' hc']);rw[h3,?ak hc λb _ ne=>by rw[?O8,qe1],?K,qp9]);(let e4:?b9m ?Fb (λy=>?ae0*?Nr):=Ag λy hy=>by rw[e2 y hy]);rw[e3,e4];let mn:=dg.mn;let mw:=dg.mw;cases hw:i<w;{rw[?ak hw λb _ ne=>by ext a6E,?K];unfold numAt;cases hk:i<k;{rw[?mJ]};rw[?kG,?b7c dg.zero ?g hw]};rw[?aq λy hy=>by rw[?z,qg0]];unfold numAt;rw[?z,qg0]
universe e9
universe Lat
namespace Hb
open PySem L2
private def oV(n:Int):∀(ms:Ms) (k:Int),?b0k ?vj=n*?bd:=λms k=>by unfold Iq;split;{rename_i h;rw[h,qg0];rfl};induction ms with| nil=>rw[qu5,Fq,qe1]| cons p ms ih =>rw[qd7,C3,C3,ih];exact(if ?d8 then n*p.2 else _)=_;ext ho
def K7[?u]{k:Int}[?gb]{j:Nat}(hj:j<?ap):An ?o6 ?nz=u j:=by
 ext app
 let hb:=?aH7;ext aof
 ext aqa
def Fo[?u]{k:Int}[?gb]{p:Int}(h:p ∉ ?dx):An ?o6 p=0:=by apply Fp λhm=>h ?_;let ?aah:=?zZ;show(Zp hr).1
def Yb[?aZ]:∀(ns ms:Ms),?fv->?asv ?i6=?ct+?asv ns| [],ms,_=>?b3N ?ct ?ct| p::ns,ms,h=>by exact ?b5X ?G3;rw[Yb φ ns _ (?b0R OI h),vS φ h,Ds,ql9]
private def Z5[?aZ](n:Int)(ms:Ms):?asv ?vj=n*?ct:=by unfold Iq;split;{rename_i h;rw[h,qg0];rfl};induction ms with| nil=>rw[qu5,Sz,qe1]| cons p ms ih =>rw[qd7,Ds,Ds,ih];exact n*p.2*?vr+_=_;grind
abbrev QS[?aZ](q:Int)[?po]:Int:=if ?qK then ?awY ?iL*?asv ?i8 else 0
abbrev lfL[?aZ](q:Int)[?br]:Int:=(?io (QS φ q)).sum
def UK{n:Nat}[?dr][?arN](hg:?Ni)[?Aj][?aZ] : ?aso ?aZ1=?yc+(if g.1=q then g.2 else 0)*?aNO:=by unfold lift1;rw[qa1,qt8];cases e:g.1=q;{rw[?A ?abG,?A (by rw[h.1];ext d),?cF];exact ?b5X (Ff _ _);let h1:=h.at ?QO;rw[Yb φ _ _ h1.n,Z5,e]};rw[?z,?iE,qg0,qe5,←qa1]
def gO{n:Nat}{fl:Ms}(hf:Dh fl)[?Aj][?aZ]:?b9O (nd gs->(∀g∈gs,?Ni) → ?b6q ?akL (?awY gs*?aNO))| [],lf,_,_,_=>by rw[List.foldl_nil,Fq,qg0,qe5]| g::gs,lf,h,hn,hk=>by let hn2:nd gs:=(?nM hn).2;let hg:g.1 ∉ gs.map (·.1):=(?nM hn).1;rw[qv6,gO hf hq φ gs ?aBR hn2 ?SY,UK h hf g (hk g ?c2) hq,C3];cases e:g.1=q;{let e2:?awY gs=0:=Fp (e▸hg);rw[?cF,?cF,e2];grind};ext AV;grind
def uK{n:Nat}[?dr][?arz](hn:?a08)[?Aj][?aZ] : ?b6q ?VM ?adZ:=by unfold T9 QS;split;{show gO hp.fl hq φ _ h hn hp.gk};rw[qe5]
def GN{n:Nat}[?Aj][?aZ]:∀[?br] [?dr],?lB->?agZ → ?b6q ?RK ?aTS| [],lf,_,_=>by exact _=_+0;rw[qe5];rfl| ?ln,lf,h,hp=>by let h1:=?aNE;exact ?aso ?aV3=_;rw[GN hq φ ps (h.part ?lW) (?b81 hp),uK h ?lW h1.2 hq];exact _=_+(?adZ+?aTS);rw[ql9]
def UJ{n:Nat}[?iv](hok:?aYg)[?Aj][?aZ] : ?aso ?aMb=?acB:=by (let:∀[?gX] [?eK],?lB->?aYg->?b6q ?Zf ?acB:=λls=>by induction ls with| nil=>intro lf _ _;exact _=_+0;rw[qe5];rfl| cons ps ls ih =>intro lf h hk;let h1:=?aib;rw[qv6,?b3I (λp hp=>(?b7u h1).1),GN hq φ ps h h1,qd7,qm8,ql9]);unfold liftsB;rw[?P ls _ (?aiC n) hok];(let e:?asv ((?bh n ([]:Ms)).getD ?jj [])=0:=by rw[qa1,qp6];ext ho);rw[e,qk8]
def VQ[?aZ][?dq][?ix]:∀j,?asv ?ku=?ct+n*?j ?ad4 j| 0=>by exact ?aD4;rw[qe1,qe5]| ?a0=>by exact ?b5X ?Sw;rw[vR φ ?aCt,VQ φ h fs n j];exact _=_+n*(?j _ j+?afP);(let e:AZ n j=n*?kv:=by unfold AZ sg;let:?uo=0\/?uo=1:=?g;ext a5P);rw[e,?asC (?XF+n*?kv-?XF=n*?kv),Int.mul_add,qe9];ext d
def HZ[?aZ][?N](p:Int):?asv ?SO=?aG0:=by rw[iA];exact ?b5X (EJ [] ?iT 1 ?GL);rw[VQ φ (show nd ([]:Ms) from qr8),Sz,qk8,qe2];rfl
def Qg[?B0]{j:Nat}(hj:?aa6):l.getD j 0∈l:=?aFT
def OY[?u]{φ ψ:?cy}{p:Int}(h:∀f∈?iT,φ f=ψ f):?aG0=?b5M ψ:=by unfold face;apply ?Ko;rw[h _ ?ace]
def gR[?u](φ:?abi)[?Az](p:Int)(m:Nat):?b5M (λy=>?asV (u a*φ a y) m)=?asV (u a*?b5M (φ a)) m:=by unfold face;(let:∀n,?anS=?b7R (u a*?asU ?aGt n):=λn=>by (let e:?anS=?asU (?b7R (u a*?aGt)) n:=?awm ?aJs);rw[e,Cf];show ?atY ?va);show ?P _
def OH[?B0](h:l.Nodup)[?fn](hi:?a7k)(hj:?aa6)(e:l[i]=l[j]):i=j:=by let h1:=?a2P h;rcases qn7 i j with q | q | q;{show ?X e (h1 i j hi hj q)};{show q};show ?X ?lL (h1 j i hj hi q)
def Lh[?u]{k:Int}[?gb](y:Int):An ?o6 y=?asV (u a*RI ?tX y) ?ap:=by cases h:y∈?dx;{let ?F6:=qg8 h;(let e1:?nz=y:=?aiT);rw[←e1,K7 hj,?aAS (j:=j) hj λa ha ne=>?_];{unfold RI;rw[?K,qp9]};unfold RI;rw[?s λz=>ne ?_,qe1];let h1:=?xo;rw[qa1,qa1,?Sl,?gr]at z;show OH h1 ha hj ?cT};rw[Fo h];symm;apply ?lS ?wF;unfold RI;rw[?s λz=>h ?_,qe1];rw[z,qa1,?Sl];show qd6 ha
def dJ[?u]{k:Int}[?gb]{c:Nat}:?cd xs ?anX ?aeO=?asV (u a*Pt xs k a c) ?yp:=by let e:?anX=λy=>?asV (u a*RI (?a47 a 0) y) ?yp:=?dA λy=>Lh y;rw[e,gR];show ?atY (by rw[rH];rfl)
def sumN_cut[?aI](a:Nat):∀b,?alg=?ZH+?asS (f (a+i)) b| 0=>?b3N ?ZH ?ZH| b+1=>by exact ?alg+f ?jB=_+(_+f ?jB);rw[?ui f a b,ql9]
abbrev blw:?ayu ?a7u| 0,_=>0| ?a0,f=>?bR
def SW[?u]{n:Nat}[?pJ](t:?aBb) : ∀{k:Nat},k<n->∀{c d:Nat},c<?hT->d<?hT → ?aRS+?aDO=if c=d then 1 else 0:=λ{k} hk {c d} hc hd=>by let b:=?nn;rw[?aAL (P:=?Nu) (PB:=?VX) ?ZM];cases k with| zero =>let ?IT:=t.z0;exact _+0=_;rw[e1,e2,e3,qe5];let:=(Lat.Lev.first ?Hu (Pt xs 0)).du c d hc hd;rw[←this];show ?atY (by unfold Lat.one;congr 1<;>(ext M2))| succ j =>let ?IT:=t.nx j ?tg;let bj:=(t.lv j ?tg).1;let ir:=?aEY c d hc hd;let kw:=bj.kw;exact _+?a7r=_;rw[←ir];exact _=?j ?aYr ?y5;rw[e1,e2,e3,?b0F ?y5 ?ahi kw,sumN_cut,qp3,qw6]
def I0(φ:?J):∀z,(?aLJ φ).sum=?aMm| 0=>rfl| z+1=>by rw[ql5,qb2,qz6,I0 φ z];exact _+(φ z+0)=?aMm+φ z;rw[qe5]
def BD(φ:BPart->Int):∀ps:?g3,(?zG φ).sum+(?io λb=>if ?E2 then φ b else 0).sum=(?io φ).sum| []=>rfl| ?ln=>by let ih:=BD φ ps;unfold noB at ih ⊢;rw[ql8,qd7,qd7,qm8,qm8];cases h:?qK;{rw[?s ?lX,?b3];ext d};rw[?A ?lX,?ad,qd7,qm8];ext d
def jY[?dV](F:?Xs):∀(l:?d6) (k:Nat) (a:α),l[k]?=?y1->(∀j b,l[j]?=?Dl->j≠k->F b=0)->?Jp=F a| [],k,a,e,_=>?oh| x::l,0,a,e,h=>by let e:x=a:=?Gr;subst e;rw[qd7,qm8];(let:?Jp=0:=by (let:∀(l:?d6),(∀b∈l,F b=0)->?Jp=0:=λl=>by induction l with| nil=>intro _;rfl| cons y l ih=>intro hl;rw[qd7,qm8,hl y ?c2,ih λb hb=>hl b ?Un];rfl);apply ?P l ?d9;let ?NK:=?Pu;show ?aeE);rw[this,qe5]| x::l,?F,a,e,h=>by rw[qd7,qm8,h 0 x ?h ?g,jY F l k a e λj b hj ne=>?aeE,qk8]
def EX[?dV]{F G:?Xs}:∀{l:?d6},(∀b∈l,F b=G b)->?Jp=(?zJ G).sum:=λ{l} h=>by rw[qm7 h]
def mO[?u][?ay]{k:Int}[?ep](e:Int):?alN=An (?b7J ?dg (?Pj ?ap ?Ck v)) e:=by ext a5W;cases he:e∈?xI;{let ?afM:=qg8 he;(let e1:?a3B=e:=by rw[qa1,qa0 hx,ex];rfl);rw[←e1,K7 (k:=?dg) hx,e1];exact ?ag9=_;rw[MN hl];unfold Lat.mulV;apply ?Ko;unfold Pt;rw[e1,?Xx]};rw[Fo he];ext ao0
def Wc[?u]{k:Int}{u v:?J}(h:∀a,a<?ap->u a=v a)(e:Int):An ?o6 e=An ?iX e:=by rw[Lh,Lh];show ?b0N h
abbrev TM(p q:Int)(b:BPart):Int:=?aOO*?qt
def oY[?u][?ay]{k:Int}[?u5][?aD][?fd][?a6Y]{i:Nat}(h1:?fI=1)(q:Int) : ?a8M=?Zk:=by ext aol;(let hf:?aC=1:=by unfold Lat.numAt at h1;rwa [?gQ]at h1);exact ?afc=?Ng;rw[?z,←Ei,mO hs,?HC];apply Wc ?wF q;rw[?aAP,hf,qe2]
abbrev JS(e:Ms)(q:Int)(b:BPart):Int:=if 0<b.1 then wF ?Si e / b.1*?aeo else 0
section
variable[?u][?pJ]
def N1.lev(t:?aQr){j:Nat}[?au](e:?b67 j):j<4/\ps=?ql/\?aZu:=by ext ap6;show#[hj,?h,?c6,?c6,_,h1,?h]
def N1.ok[?dM]:∀ps∈ls,∀p∈ps,?aGG/\?a08:=λps hps p hp=>by let ?NK:=qi1 hps;let#[_,e,lv]:=?aLa;apply#[lv.ok B8 p hp,?_];rw[e]at hp;let ?a1a:=?kP;show ?TL
def Y3[?dM][?tr][?aZ] : ?asv ?jr=?asS (QS φ p ?ia) ?bk:=by let h3:=?DM;rw[UJ (t.ok B8) h3.1,jY (lfL φ p) ls k _ (?Dh).2 λj b hj ne=>?_];{unfold lfL B7;rw[qk7,←I0];rfl};let#[hj4,?h,_]:=?aLa;unfold lfL;rw[EX (G:=?dh) ?d9];{(let:∀(l:?g3),(?zJ ?nO).sum=0:=λl=>by induction l with| nil=>rfl| cons a l ih=>rw[qd7,qm8,ih];rfl);show ?P _};let ?a1a:=?a1r;unfold QS;let:An ?ajf p=0:=Fo λz=>ne (by let:=(Cn z).2.2;rw[h3.2.2]at this;ext d);rw[this,qg0];ext ho
def T8[?dM](p:Int):Dh ?jr:=by (let:∀[?gX] [?eK],Ij ?be lf->?aec->Ij ?be ?Zf:=λls=>by induction ls with| nil=>intro lf h _;show h| cons ps ls ih=>intro lf h hk;show ?b3I ?aib);show(?P ls _ (?aiC _) λps hps p hp=>(t.ok B8 ps hps p hp).1).at _
def IK[?ay][?dM][?tr](q:Int) : ?b4p q = ?CL:=by rw[Ei,?OD];let h1:=BD ?yy ?vt;(let h2:(?aIm ?yy).sum=?CL:=by ext a6M);(let h3:(?b02 ?aIm TM p).sum=?asS (QS ?a1P p ?ia) ?bk:=by unfold B7;rw[qk7,I0];ext Ae;exact(if (B9 _ _ _ _ _ _ _ _ _ i).1=1 then _ else _)=?ayq QS;unfold QS TM;ext aox;{rw[?b3,?b3,oY hs ?nn h]};rw[?ad,?ad]);rw[←h2,←h1,h3,qw6]
def uO[?ay]{k p:Int}(hp:?R6):∀f∈?iT,f∈?xI:=λf hf=>by
 let#[h0,?Q]:=?DM;obtain⟨y,hy⟩:?a18:=#[_,?Q6]
 ext a5l
 rw[ey]at hf h2;let ft:=?aON;let#[g,eg,lg]:=?aPF;let hl:=?afa;let hlt:=?ahI;rw[qc3]at hlt;let e2:?wG=?i g:=by rw[qj0]at eg;split at eg<;>first | show eg | cases eg
 apply K6 hl ?g ?_;rw[qa1,e2];exact Ci g.length=?dg;rw[←h2];show lU lg
def CF[?ay][?dM]{j:Nat}(hk:?a0<4){c:Nat}(hc:c<?y5)(q:Int) : ?Nt+(?aRb ?V3).sum = ?aii:=by let hp:?q8∈?aPJ:=Qg hc;let bj:=(t.lv j ?tg).1;(let hw:∀i,i<?fL->?aIo=?FI:=?b66 (by ext aoC));let pos:∀i,?jD->0<?If:=bj.fin.dg.pos;let num:∀i,?fU=if ?jD then ?If else 0:=λi=>rfl;let kz:=bj.kz;(let h1:?Nt = ?asS ((if ?wL then An (?JF).2.2.2 q else 0)*?aIo) ?fL:=by rw[←gR (λi=>?NZ)];apply OY ?EE;let hl:=uO hs hp f hf;rw[?aYs]at hl;let hlo:=T8 t B8 f;rw[←y6 q hlo.n,Y3 t B8 ?tg hl];ext Ae;unfold QS;exact ?b6G ?wL _ _;cases h:?wL;{rw[?b3,?b3,y6 q,qf8];exact nd ?GH;rw[?z];show ?TL};rw[?ad,?ad,qg0]);let h2:=BD ?V3 ?ql;(let fl:∀i,i<?fL->JS ?SI q ?JF=?aYd:=?b66 (by unfold JS;rw[HZ,hw i hi];exact(if 0<?fU then ?akl*?aPp else 0)=_;rw[num];cases h:?jD;{let:=?H i h;rw[?b3,?A ?P,?b3,?z,?agR]};rw[?ad,?ad,?z]));(let h3:(?aOJ ?V3).sum=?asS ?aYd ?fL:=by unfold B7;rw[qk7,I0];show Ag fl);(let h4:(?b02 ?aOJ JS ?SI).sum=?Nt:=by rw[h1];unfold B7;rw[qk7,I0];ext u7;exact(if ?wL then JS _ q ?JF else 0)=_;cases h:?wL;{(let hik:?jD:=by cases q:?jD;{show q};rw[num,?dI]at h;ext d);rw[?b3,?b3,fl i hi,?A hik,hw i hi,h,qe2,qf8];exact ?ET*_=?aPp*_;rw[?z]};rw[?ad,?ad,qg0]);rw[qw6,←h4,h2,h3,?b0F ?fL ?aiJ kz,sumN_cut];let h5:?asS (if ?JK<?fV then ?a0M ?JK c*An (?b7J ?p9 ?afI) q else 0) ?aiJ=0:=?lS λi _=>?z;rw[h5,qe5];show Ag (?b66 ?gQ)
def kZ[?ay][?dM][?tr](q:Int) : ?b4p q + ?aJU+?aOm=?SZ:=by rw[IK hs t B8 hk hp];ext aoo;(let hf:?aJU+?aOm = ?Zw:=by cases k with| zero =>exact _+0=0;rw[qe5];let hl:=(?DM).2.2;(let:?GL=0:=by let h0:=?DM;obtain⟨y,hy⟩:?a18:=#[_,qa0 (?uv h0.1 h0.2.1)];ext aqR;rw[ey]at hl ⊢;let hc:=(?aON).cnt;unfold Ci at hl;split at hl<;>ext d);unfold face;rw[this];rfl| succ j =>let:=CF hs t B8 hk (c:=c) hc q;let e2:?q8=p:=e1;rw[e2]at this;show this);rw[ql9,hf];cases hq:q∈?we;{let#[d,hd,ed]:=qg8 hq;(let e3:?aNa d 0=q:=by rw[qa1,qa0 hd,ed];rfl);(let h1:?CL=?aRS:=?b5U (by exact ?aAa*?aTs=_;rw[←e1,←e3,K7 hc,K7 hd]));(let h2:?Zw=?aDO:=by cases k with| zero=>rfl| succ j =>ext Ae;let e4:?aLP d 0=q:=e3;rw[←e4,K7 (k:=?p9) hd]);rw[h1,h2,SW t hk hc hd];cases z:c=d;{subst z;rw[?K,?A (e3.symm.trans e1)]};rw[?e9,?b0o (OH ?xo hc hd (by rw[ec,ed,y]))]};(let h1:?CL=0:=?lS λi _=>by exact _*?aTs=0;rw[?xE,qe1]);(let h2:?Zw=0:=by cases k with| zero=>rfl| succ j =>apply ?lS ?PC;let:?ET=0:=?xE;rw[this,qe1]);rw[h1,h2,?s λ(y:q=p)=>hq (by rw[y];show hp)];rfl
universe e9
abbrev KJ[?n][?ca]:Sp:=?asE (?b3e (k<?gA) (∀[?ma],?b95 (?b9j (?QL ?xp []))))
abbrev IV(ms:Ms)(n:Int)(ns:Ms):?wv| 0=>ms| ?k=>?rv ?mE ?a4r ?aXk
def XD[?dq](n:Int)(ns:Ms):∀i,nd ?mE| 0=>h| ?k=>oH (XD h n ns i) _ _
def oQ(ms:Ms)(n:Int)(ns:Ms):∀i,?asa ?mE ?al6| 0=>?l| ?k=>by let h1:=oQ ms n ns i;let h2:=iZ ?mE ?a4r ?aXk;exact ?asa ?Sw _;ext d
def oW(ms:Ms)(n:Int){ns:Ms}(hn:?uU)(k:Int):∀i,?aUN->?b77 ?mE n ?ad6| 0,_=>by exact ?bd=?bd+n*?Bi;rw[Fq,qe1,qe5]| ?k,hi=>by let ih:=oW ms n hn k i ?g;(let e:?Kz=?nK:=?aCg);exact ?b0k (?rv ?mE _ _)=_;(let hnt:nd ?Eo:=by unfold nd at hn ⊢;rw[qp5];show hn.sublist (?abk ..));rw[e,MC];cases z:k=?D8;{subst z;rw[?K,oW ms n hn ?D8 i ?g];let h1:An ?Qo ?D8=0:=Fp (by unfold nd at hnt;rw[qd9,?G5,qb2,qx4]at hnt;intro hm;show hnt.2.2 _ hm _ (qg5.mpr ?h) ?h);(let h2:An ?Eo ?D8=ns[i].2:=by unfold An;rw[Ef hnt (p:=?nK) (qa9 (i:=i) (by rw[qj0,?bD,?G5]))];rfl);rw[h1,h2,qe1,qe5]};rw[?e9,ih];(let h3:?b0k ?Eo=?ad6:=by rw[qd9,?G5];(let:∀(l:Ms),?b0k (l++[?nK])=?b0k l:=λl=>by induction l with| nil=>exact ?b0k (?nK::[])=?Bi;rw[C3,?s ?ahU]| cons a l ih=>rw[List.cons_append,C3,C3,ih]);show ?P _);rw[h3]
abbrev bU[?d0]:Sp:=?asE (X9 λ ?fJ ?aw ?a4p=>EI (?b6Z ?fD ?bT) ?oo ?ahL ?fv ?uU (?b53 400) (?b5x 400) ((∀q∈ns,?cN n q.2)) (?b6k ?a10))
def iV{ms ns:Ms}(hm:?fv)(hn:?uU)(n k:Int):?b0k ?a10=?bd+n*?b0k ns:=by let:=oW ms n hn k ?amx ?l;rw[qc8]at this;rw[OV (XD hm n ns _),this]
def P9(n:Nat)[?gX]:?atm ?aMb n:=by (let h1:∀(fl gs:Ms) [?eK],?atm ?akL lf.length:=λfl gs=>by induction gs with| nil=>intro lf;rfl| cons g gs ih=>intro lf;rw[qv6,ih];unfold lift1;rw[ql6]);(let h2:∀[?br] [?eK],?atm ?RK lf.length:=λps=>by induction ps with| nil=>intro lf;rfl| cons p ps ih =>intro lf;exact ?atm ?aV3 _;rw[ih];unfold T9;split;{show ?ayq h1};rfl);(let h3:∀[?gX] [?eK],?atm ?Zf lf.length:=λls=>by induction ls with| nil=>intro lf;rfl| cons p ps ih=>intro lf;rw[qv6,ih,h2]);unfold liftsB;rw[h3,qj4]
def xQ{ms:Ms}{k v x:Int}(h:x∈(?gg).map (·.1)):x∈?bY (·.1)\/x=k:=by cases e:x=k;{show ?y e};apply ?aLz;let ?GX:=?Ey;unfold putI at hp;split at hp;{let ?Tu:=?kP;apply ?KN #[q,hq,?_];split<;>rfl};ext a6K;{show qm6 h};show ?X (by rw[?nc h]) e
def LW{ms:Ms}(h:?yk){k v:Int}(h0:?jO)(h1:k<40):zK ?gg:=?awc (by rcases xQ (qm6 hp) with h2 | h2;{let ?a9t:=?cD h2;rw[←e];show h q hq};rw[h2];show ?aQM)
def XS{ms:Ms}(h:?yk)(n:Int){ns:Ms}(hn:zK ns):∀i,?aUN->zK ?mE| 0,_=>h| ?k,hi=>by (let e:?Kz∈ns:=by ext AZ;show ?ji);show LW (XS h n hn i ?g) (hn _ e).1 (hn _ e).2
def YM[?dq](hk:?yk):Dh ?mI:=by apply#[?_,?eI,?awc (hk p ?Yd)];{unfold nd at h ⊢;show h.sublist ?aPx};let:=(?jx hp).2;ext he
def Dh.lp[?a6H](n:Int):Dh ?a10:=YM (XD h1.n n ns _) (XS h1.k n h2.k _ ?l)
def QY{ms:Ms}(h:?yk)[?uM](hf:∀f∈fs,?ac9)(n:Int):∀j,j<=fs.length->zK ?ku| 0,_=>h| ?a0,hj=>LW (QY h hf n j ?g) (?aM7).1 (?aM7).2
def qY[?u](hx:∀i,∀f∈?RR,?ac9)(ms:Ms):∀i,zK ?p6| 0=>?aBp| ?k=>QY (qY hx ms i) (hx _) _ _ ?l
def kM[?u][?ay][?eJ]:∀i,∀f∈?RR,?il/\?Ep/\f<40:=λi f hf=>by rw[qa1]at hf;cases e:?A3 with| none=>rw[e]at hf;cases hf| some y =>rw[e]at hf;let ft:=hs i y e;let#[g,eg,_]:=?aPF;let hl:=?afa;let:=?ahI;rw[qc3]at this;replace this:=qb0 ?P ?nF;ext d
def jU[?u][?ay][?eJ](ms:Ms):Dh ?YS :=YM ?a97 (qY (λi f hf=>let h:=kM hs B8 i f hf;#[h.1,?s5]) ms _)
def Q0[?N](ms:Ms)(q:Int):?awY ?YS=?awY ?i7:=by rw[OV ?a97,BJ];rfl
def WV[?uM]{e:Int}(h:e ∉ fs):?a3C=0:=by unfold Pm;apply QL ?_;rw[zc5];intro i hi;let:=?gy;simp only[qq9];show λz=>h (z▸Qg ?P)
abbrev Dg[?N](p:Int):Ms:=?SO
def JH[?u][?ay][?eJ](p:Int):Dh ?oz:=?b23 ?no
def MD[?u][?ay][?eJ][?mU]{p:Int}{t:?ds}(h:t∈?oz):?aGe<?F7/\0<=t.1/\t.1<?gA:=by (let e1:?aFY=t.2:=?auE ((?aI1).n) h);(let e2:?aFY=?anZ:=by exact An (?b47 ?no ([(p,?c7)].length)) t.1=_;rw[Q0,Ei,Ds,Sz];exact ?c7*?anZ+0=_;ext d);apply#[by rw[←e1,e2];show ?acp,?_];let hz:=(?aI1).z t h;rw[←e1,e2]at hz;(let hm:?aI7:=?b68 ?aI7 (WV q) hz);let:=kM hs B8 ?o9 t.1 hm;show ?r2
structure PN[?N][?AY][?eK](p:Int)(k:Nat):Prop where
 p0:?qj
 p1:?t7
 k4:?eB
 lv:?v7=?aL
 lfl:?SB
 lfo:∀q:Int,Dh ?aQR
 lfr:Z1 xs ?cE ?QQ
 r:∀b∈?zn,Dh ?mB/\Dh ?rf/\∀t∈?mB,?b7V ?aOO
 f:∀j,?a0=k->∀b∈?Qc,(Dh ?rf/\Dh ?ex)/\0<=b.1/\b.1.natAbs<?jY/\(?p3->?a16=0)/\(0<b.1->?a16%b.1=0/\∀t∈?ex,?b7V (?a16 / b.1))
 sum:∀q,?auQ ?QQ q+(?awT ?zn ?yy).sum+wF (λf=>?awY (?b6n ?WE)) ?oz+blw k (λj=>(?awT ?Qc (JS ?oz q)).sum)=?SZ
abbrev J8(O H:Hp)(hd:Addr)[?AY]:Prop:=Dn λ ?or=>Ft ?a7Y (us.length=hl.length) (?b8n ?BO (Ft ?aAF ?J7 ?aft))
def J8.same[?uR]{hd:Addr}[?u6](h:?uy)[?fi]:J8 O H' hd hl:=by let ?aYz:=h;apply#[us,?axb e1,e2,λj v ps h1 h2=>?_];let#[D,uk,e4,e5,e6]:=e3 j v ps h1 h2;show#[D,uk,e4,?axb e5,e6.same s]
def J8.at{O H:Hp}{hd:Addr}[?u6](h:?uy){j:Nat}(hj:j<hl.length):Sx λ ?or ?a1n ?PS ?PK=>Ey ?a7Y (?BO=?i ?cr) ?J7 ?aft ?Kr (?Qc=ps):=by ext ha;let ?aYz:=h;obtain⟨v,hv⟩:∃v,?BO=?aW:=?aYo;obtain⟨ps,hps⟩:∃ps,?Kr:=#[_,?gr];let#[D,uk,?h,e5,e6]:=e3 j v ps hv hps;ext hn;show#[us,D,uk,ps,e1,hv,e5,e6,hps,by rw[qa1,hps];rfl]
abbrev fP[?n]:Sp:=λvs H Q _=>mW λ ?X8 ?EP ?ah ?zv ?ZN ?G2 ?G9 (O O':Hp)=>zJ (vs=[?R,?Kj,?I hd,?a4m]) ?bP ?dF ?dy ?p8 ?aWE ?uy ?Xu (Fy O' H wu lf) (PN xs hl lf p k) (∀[?ma] (m:Ms),?bl->?aM->?b3U cK->Dh m->(∀q,?a0r=?SZ)->?dB)
def bQ[?dV](F:?Xs){l:?d6}{i:Nat}{b:α}(h:?aFl):(?awT ?ad9 F).sum=((l.take i).map F).sum+F b:=by rw[qd9,h,qb2,qz6];exact _+(F b+0)=_;rw[qe5]
def ZP[?aZ]{l:Ms}{i:Nat}{b:?ds}(h:?aFl):?asv ?ad9=?asv (l.take i)+b.2*φ b.1:=by unfold wF;show bQ _ h
def Dt.out{O H:Hp}[?uS][?au](h:Dt O H us ps):Dt ?fM H us ps :=(?b5Z (by let#[?j3,_,h1]:=?Yo;show#[?j3,#[?V,?V],h1]))
abbrev vK(H:Hp)(E:Addr)[?ch][?AY]:Prop:=?ayW hl.length/\?b8n (vs[j]?) (Bv ?aAF (D≠E) ?J7 ?aAs)
def vK.same[?bF]{E:Addr}[?aV][?u6][?MO][?fi]:?b86 H' :=(?avi (s _ _ e3) e4.same s)
def vK.put{H:Hp}{E:Addr}{vs ws us:?a2}[?u6][?MO](hE:H E=?hL):?b86 (?auf E ?G8) :=(?avi (by rw[Aj e2];show e3) e4.put hE)
def vK.snoc{H:Hp}{E D:Addr}{vs uk:?a2}[?u6][?au][?MO](h2:D≠E)(h3:?J7)(h4:?aAs):vK H E (vs++[?cr]) (hl++[ps]):=by let h0:=h.1;apply#[?a0h,λj v qs e1 e2=>?_];cases hj:?aOi;{rw[qc5 hj]at e1;rw[?tT]at e2;show ?ay2 j v qs};rw[?oN]at e1;rw[?oN]at e2;(let hz:j-vs.length=0:=by let:=?anB;simp at this;ext d);rw[hz]at e1;rw[←h0,hz]at e2;cases e1;cases e2;show#[D,uk,?h,?mj]
def vK.at{H:Hp}{E:Addr}[?aV][?u6][?MO](hE:H E=?Fh):J8 ?fM H E hl :=#[vs,hE,h.1,λj v ps h1 h2=>by let#[D,uk,e1,_,e3,e4]:=?Oh;show#[D,uk,e1,e3,e4]]
section
variable[?u][?pJ]
def lS[?dM][?tr]:Z1 xs ?cE ?jr:=by let ok:=?a1V;apply#[ok.len,?lY];(let e1:An ?jr q.1=q.2:=?auE ok.n hq);let hz:=ok.z q hq;(let hm:?aeY:=by cases h:?aeY;{show h};apply ?X ?_ hz;rw[←e1,←y6 q.1 ok.n,?OD];apply ?lS ?PC;unfold QS;split;{(let:wF ?aN5 (?ia).2.2.2=0:=by exact wF ?aN5 ?Fx=0;split;{rfl};rw[y6 q.1 ?TL];show Fo h);rw[this,qe1]};rfl);let:=Cn hm;show#[?r2,?C4,hz]
def lW:∀z,?a0C->kB z<=8000:=?L
def dX[?ay][?dM]{p:Int}(hp0:?qj)(hp1:?t7):∃k,PN xs ?Jo ?rM p k:=by let h4:=Ja hs;obtain⟨y,hy⟩:?a18:=#[_,qa0 (?uv hp0 hp1)];ext aqR;let hy4:=h4 y ?aS1;(let hlv:?b8O ?v7 ?WZ:=by rw[ey];unfold Ci;ext bB);let hk:?WZ<4:=qk1 (za2 hy4);generalize ?WZ=k at hlv hk;let hp:p∈?we:=K6 hp0 hp1 hlv;(let ge:∀j,j<4->?aAt=noB ?ql:=?atH (by rw[qa1,qa6,(?aG4).2];rfl));ext aq9;ext aoo;apply#[k,hp0,hp1,hk,hlv,P9 _ _,T8 t B8,?aBM,?d9,λj hj b hb=>?_,?jJ];{rw[?wu]at hb;let ?eO:=?cD ?qs;let hi:=?gy;let bl:=?nn;apply#[?rh,?rh,?aky];(let bits:?avO ?NT:=λP M h1 h2 c hc=>?b9L Sa);let ?ako:=Mu hu;let hz:?Pv:=?aZE;(let b1:?ath ?aAa ?NT:=by rw[←e1,K7 hc];show ?s8 _ _ ?Jg ?Kg c hc);(let b2:u.2.natAbs<?NT:=by rw[e];show ?s8 _ _ ?Od bl.bL d hd);show ?aHw};{subst hj;let hj4:j<4:=?tg;rw[ge j hj4]at hb;let ?eO:=?cD ?qs;let hi:=?gy;let bj:=(t.lv j hj4).1;let e2:?q8=p:=e1;(let hw:wF ?NZ ?oz=?FI:=by unfold Dg;rw[HZ,←e2];ext aoC);let hnn:0<=?fU:=oE ?aF4;let hz:?fL<=40:=?m bj.zm ?aZ4;apply#[#[?rh,?_],hnn,?_,?adq,?adq];{exact Dh ?GH;split;{show Dh.nil};show ?rh};{exact ?ath ?fU ?jY;cases h:?jD;{let h1:?fU=?If:=?b3;let h2:=bj.fin.dg.le h;let h3:=lW ?fL hz;let h4:?a7h<=?EF:=qf3 ?g h3;let h5:?EF<?jY:=?acM;let h6:=?aF4 i h;rw[h1];let:?asX ?If ?a7h:=?aCG;show ?aHS};rw[?ajH];show ?y0};{let h0:?fU=0:=h0;rw[hw,h0,qg0]};let h0:0<?fU:=h0;rw[hw];exact ?FI%?fU=0/\∀u∈?GH,?cN ?akl u.2;rw[?agR,?z];apply#[Int.mul_emod_right _ _,?aky];(let hik:?jD:=by cases h:?jD;{show h};rw[?ajH]at h0;ext d);let ?ako:=Mu hu;let hiw:i<?y5:=qb0 hik bj.kw;rw[e];show DX (bj.fin.br.2 i c hiw hc) (bj.fin.br.1 i d hiw hd)};let:=kZ hs t B8 hk hp q;rw[?wu];unfold Dg;rw[HZ];cases k with| zero=>show this| succ j =>exact _+(?awT ?aAt _).sum=_;rw[ge j ?tg];show this
universe e9
def Ab2[?u]{k:Int}{a j:Nat}(ha:a<?ap)(hj:j<?ap)(h:?tX=?nz):a=j:=by rw[qa1,qa1,?Sl,?gr]at h;show OH ?xo ha hj h
def NW[?u]{k q:Int}(h:?EW):∃j,j<?ap/\?nz=q:=by let ?F6:=qg8 h;show#[j,hj,?aiT]
def HY[?u]{k:Int}[?aZ]:∀{c:Ms},nd c->(∀p∈c,?JI)->?Jk=?asV (?ou*?GJ) ?ap| [],_,_=>by rw[Sz];show(?lS λa _=>by rw[Fq,qg0]).symm| ?nb,h,hk=>by let hn:?v ∉ c.map (·.1):=(?nM h).1;let hc:nd c:=(?nM h).2;let ?F6:=NW ?a8a;(let e2:?asV (An ?nb ?tX*?GJ) ?ap=?asV ((if a=j then ?Uo else 0)+?ou*?GJ) ?ap:=Ag λa ha=>by rw[C3];cases z:a=j;{subst z;rw[ej,?K,?K,Fp hn,qg0,qe5]};rw[?e9,?b0o (Ab2 ha hj (y.symm.trans ej.symm)),qk8]);rw[Ds,HY φ hc ?aA6,e2,De,?aAS hj λa _ ne=>?gj,?K]
structure ChL[?N](k:Int)(m:Ms):Prop where
 ok:Dh m
 lv:∀q,q ∉ ?dx->?a0r=0
def Dh.val{m:Ms}(h:Dh m)[?Mj](hp:p∈m):An m ?v=p.2:=?auE h.n hp
def ChL.key[?u][?Lm]:∀p∈m,?JI:=?awc (?b68 ?JI ((h.ok.val hp).symm.trans (h.lv _ q)) ?aPg)
def ChL.lvok[?u][?Lm]:?b0d m:=#[h.ok.len,?axy (by let:=Cn (h.key q hq);show#[?r2,?C4,h.ok.z q hq])]
def ChL.nil[?N](k:Int):?at8 []:=#[Dh.nil,λq _=>Fq q]
def uJ[?a6H](q:Int):?awY ?i6=?awY ms+?awY ns:=(?aTU).2.2.2 q
def ChL.plus[?u]{k:Int}{ms ns:Ms}(h1:?ah7)(h2:?at8 ns):?at8 ?i6:=#[h1.ok.plus h2.ok,?axy (by rw[uJ h1.ok h2.ok,h1.lv q hq,h2.lv q hq];rfl)]
def ChL.times[?u]{k:Int}{ms:Ms}(h:?ah7)(n:Int):?at8 ?vj:=#[h.ok.times n,?axy (by rw[oV,h.lv q hq,qe1])]
def ChL.ch[?u][?eJ][?MD]:?at8 ?iX:=#[?TI,?axy ?xE]
def ChL.wF[?u][?Lm][?aZ]:Hb.wF φ m=?asV (An m ?tX*?GJ) ?ap:=HY φ h.ok.n h.key
def BL[?u]{k:Int}{g c:Ms}(hg:?at8 g)(hc:?l8):wI g c=wF (An g) c:=by exact wF ?JS g=_;rw[hg.wF,hc.wF];show ?atY ?p0
section
variable[?u]{k:Int}[?u5][?aD][?fd]
def tL[?a6Y]{c:Ms}(hc:?l8)(h0:?qc)(q:Int) : ?qS=?asS (wF (An (?GA).2.2.1) c*?Zk) z:=by exact _=?asS (?a9j*?Ng) z;cases hq:?EW;{let ?aj8:=NW hq;(let e1:?asS (?a9j*An ?a3c (?FG d 0)) z=?asS (?j (λa=>?b4l d) ?ap) z:=?b5U (by rw[hc.wF,K7 hd,←Dw];show Ag λa ha=>by rw[K7 ha,qe9]));(let e2:?j (λa=>?asS (?b4l d) z) ?ap=?b7Q ?ou (L j d) ?ap:=?atY (by rw[Bd,Bd,?aAL (P:=l.1) (PB:=l.2) ?ZM]));let e3:=b.lev.all (λa=>?ou) (?ax9 (by let:=h0 ?a3B;rw[Ei,hc.wF]at this;apply ?tI ?Qe ?P;show ?p0)) d hd;rw[e1,Cf,e2,Cf];apply e3.trans ?aXa;rw[←Dw];show ?atY (by exact ?yK*?ou*L j d=_;rw[qf8 ?yK,qe9])};rw[hc.lv q hq];show(?lS λi _=>by rw[?xE,qe1]).symm
def mD[?gb](n q:Int):?awY (Hq xs k λa=>n*u a)=n*?aSx:=by rw[Lh,Lh,←Bd];show ?atY ?vN
def r6[?ay][?a6Y]{i:Nat}(h1:?fI≠0)(q:Int) : ?a8M=(?GA).1*?Zk:=by ext aol;let hf:?fI=?aC:=?gQ;exact ?afc=?fI*?Ng;rw[?f2,←Ei,mO hs,?HC,hf,←mD];show Wc (?azf ?aAP) q
universe e9
def wF_sumN(A:?abi)(z:Nat):∀c:Ms,wF (λp=>?asS (A i p) z) c=?asS (wF (A i) c) z| []=>(?lS λi _=>rfl).symm| ?nb=>by rw[Ds,wF_sumN A z c,←Bd,←De];show ?b5U ((Ds ..).symm)
def PX[?aZ](n:Int):∀c:Ms,wF (λp=>φ p*n) c=?Jk*n| []=>(qg0 n).symm| ?nb=>by rw[Ds,Ds,PX φ n c,qu1,qe9]
def SQ{φ ψ:?cy}{c:Ms}(h:∀p∈c,?vr=ψ ?v):?Jk=wF ψ c:=by unfold wF;rw[qm7 λp hp=>by rw[?b7u h]]
abbrev GA[?eK](acc:Ms)[?Mc]:Ms:=Ff acc ?aOY
abbrev Jx[?eK](c:Ms):Ms:=?YN ?a0v []
def OO[?dr]{c:Ms}{i:Nat}[?Mj](h:c[i]?=?kJ):Jx lf (c.take ?k)=Ff (Jx lf (c.take i)) ?aOY:=by unfold Jx;rw[qd9,h,qr1];rfl
def Y4[?u]{k:Int}[?dr]:∀{c acc:Ms},?aTQ->?y2->?at8 ?aVf| [],acc,_,h=>h| ?nb,acc,hl,h=>Y4 (c:=c) ?Ec (?a2U ?aL0)
def LS[?u]{k:Int}[?dr][?aZ]:∀{c acc:Ms},?aTQ->?y2->?asv ?aVf=?aeX+wF (λp=>?asv ?QQ) c| [],acc,_,h=>?a1l| ?nb,acc,hl,h=>by exact ?b5X (?YN ?a0v ?aNP);let h1:=?aL0;rw[LS φ (c:=c) (acc:=?aNP) ?Ec (?a2U h1),Ds];exact ?asv (Ff acc _)+_=_;rw[?aHC,Z5,ql9]
abbrev CC(c:Ms)(acc:Ms)(b:BPart):Ms:=if ?p3 then acc else Ff acc (Iq ?a2Y ?ex)
abbrev restB(c:Ms)[?br](acc:Ms):Ms:=?a8V (CC c) acc
def nW{c acc:Ms}[?au]{i:Nat}{b:BPart}(h:?Cv=?Dl):?b1d ?k=CC c (?b1d i) b:=by unfold restB;rw[qd9,h,qr1];rfl
def KU[?u]{k:Int}{c acc:Ms}{b:BPart}(hb:?aHL)(h:?y2):?at8 ?aHl:=by unfold CC;split;{show h};show ?a2U (hb.times _)
def cD[?u][?uN]:?b7f (?y2->?at8 ?aeH)| [],acc,_,h=>h| b::ps,acc,hl,h=>cD (ps:=ps) ?Ec (KU ?aKl h)
def kW[?u][?uN][?aZ]:?b7f (?y2->?asv ?aeH=?aeX+(?io λb=>if ?p3 then 0 else ?a2Y*?asv ?ex).sum)| [],acc,_,h=>?a1l| b::ps,acc,hl,h=>by let hb:=?aKl;exact ?b5X (?xQ c ps ?aHl);rw[kW φ (ps:=ps) ?Ec (KU hb h),qd7,qm8,←ql9];congr 1;unfold CC;split;{show ?a1l};rw[?aHC,Z5]
abbrev Xz(c:Ms)(b:BPart):Int:=if ?p3 then ?nP else ?nP%b.1
section
variable[?u][?pJ]
def Qa[?dM][?tr]:?awF ?jr:=by let ok:=?a1V;apply#[ok,?lY];let lv:=?aBM;cases h:?ajC=0;{show h};let ?a8c:=?cD (dG h);let:=lv.part u hu;show ?X (K6 (?b2b ?aet) (by rw[←eu];show this.1.2) (?b2b ?xX)) hq
def tY[?ay][?dM][?pd]{c:Ms}[?M6](q:Int) : ?auQ ?a0R q=?aG5:=by rw[Ei];unfold Jx;rw[LS (xs:=xs) (k:=?cE) _ ?afg ?aWK,Sz,qk8];let e1:wF (λp=>wF ?ajL ?jr) c=wF (λp=>?asS (QS ?ajL p ?ia) ?bk) c:=SQ λp hp=>Y3 t B8 hk ?akp _;rw[e1,wF_sumN];ext Ae;unfold QS;ext aox;{rw[?b3];simp only[h,if_true];rw[PX,r6 hs ?nn (by exact ?ayq ?rQ≠0;let:?jE=1:=h;ext d),h,qe2]};rw[?ad];simp only[h,if_false];show HX ?ib
def vX[?ay][?dM][?pd][?au][?Ab]{c:Ms}[?M6](h0:?qc)(hf:∀b∈?c9,?awF ?ex)(q:Int) : ?auQ (?xQ c ?c9 ?a0R) q+(?zG ?QJ).sum=?qS:=by let#[bl,e]:=?Dh;rw[e]at hp;cases hp;let hl:?awF ?a0R:=Y4 ?afg ?aWK;rw[Ei,kW _ hf hl,←Ei,tY hs t B8 hk hc,tL bl hc h0 q,ql9];generalize hB:?vt=ps;(let mem:∀b∈ps,b.1≠0->?a9Q=b.1*?qt:=λb hb h=>by rw[←hB]at hb;let ?a1a:=?a1r;show r6 hs bl h q);(let s1:?asS (?Cx*?b8C ?ia) ?bk=(?io ?a4R).sum:=?amR);(let s2:?aG5=(?io λb=>if ?E2 then ?Oq else 0).sum:=?amR);rw[s1,s2,←BD ?a4R ps,qw6];congr 1;(let:∀qs:?g3,(∀b∈qs,b∈ps)->(?YI λb=>?aBQ).sum+(?YI ?QJ).sum=(?YI ?a4R).sum:=λqs=>by induction qs with| nil=>intro _;rfl| cons b qs ih =>intro hm;let ih:=ih (?b81 hm);simp only[qd7,qm8];(let hb:?aBQ+Xz c b*?qt=?Oq:=by unfold Xz;cases h:?p3;{rw[?b3,?b3,qk8]};rw[?ad,?ad,mem b (hm b ?c2) h];let:=?aMn ?nP b.1;generalize ?nP=w at this;rw[←qe9,←qu1,qf8 (w / b.1),this]);ext d);show ?P _ (?avr ?qs)
universe e9
def ChL.bord[?u][?ay][?Lm](q:Int):?aBj=?b3T k q (An m):=by rw[Ei,h.wF];let e:=BQ xs k (λp=>An m p*?aXM) ?be;apply ?tI e (Ag ?a2K);rw[Ax0];rfl
abbrev pP[?N](k:Int)(f:?cy):Prop:=∃F:?cy,∀p,f p=?b3T ?F p F
def pP.of[?u][?ay]{k:Int}{c D:Ms}(h:?a3I)(e:∀q,?aHg=?qS):?aTG:=#[An D,λp=>by rw[←e,h.bord hs]]
private def pP.ch[?u][?ay][?eJ][?uN](h:?aTG):∃D,?a3I/\?aOG:=by let#[F,e]:=h;let hc:=ChL.ch B8 ?F (λa=>F (?aFt a 0));apply#[_,hc,?jJ];rw[e,hc.bord hs];apply Ag ?eI;split;{rename_i hl;let#[a,ha,ea]:=ix (K6 (xs:=xs) (k:=?F) (p:=?EP) ?g ?a9m (by rw[qb8];show hl));rw[←ea,K7 ha]};rfl
section
variable[?AN]{t s:?cy}
universe e9
universe Hb
namespace L2
open PySem PySem.Spec PyProof.Rows PySem.SeqAt
universe L2
namespace Hb
open PySem L2
abbrev fD:Nat:=?Ua+40
abbrev pK:Nat:=?Ua+12000
abbrev yR:Nat:=4*bookF+13000
def Mw(n:Nat):?Pi<?jv:=qq4 n
def Ih{i:Int}{m n:Nat}(h:?uW)(hn:?jI):?aY7:=qb0 h (?b7i hn)
structure EE[?N](k:Int)(b:BPart):Prop where
 r:?at8 ?mB
 g:?at8 ?rf
 f:?b6l ?ex
 rb:∀q,?ath ?qt ?UH
 gb:∀q,?b5t ?rf ?UH
 fb:∀q,?ath ?aeo ?Dj
 nn:0<=b.1
 nb:b.1.natAbs<?jY
def Rx[?u]{k:Int}[?gb]{n:Nat}(h:∀a,a<?ap->(u a).natAbs<?jv)(q:Int):?ath ?aSx ?jv:=by cases hq:?EW;{let ?aj8:=NW hq;rw[K7 hd];show h d hd};rw[?xE];show Mw n
section
variable[?u][?pJ]
private def g8[?dM][?pd]{i:Nat}(hi:i<?bk):?ayS EE ?ia:=by let bl:=?nn;ext aq9;let hz:?Pv:=?aZE;(let bits:?avO ?UH:=λP M h1 h2 c hc=>by apply Ih (m:=?aX5) (Sa ?bf) (by unfold fD;ext d);ext a5e);apply#[?UX,?UX,?_,Rx (?s8 _ _ ?Od bl.bL),Rx (?s8 _ _ ?Jg ?Kg),?_,oE ?Iv,?_];{exact ?awF ?Fx;split;{show ChL.nil _ _};show ?UX};{intro q;exact ?b5t ?Fx _;split;{rw[Fq];show Mw _};rename_i h0;(let hik:?xF:=by cases h:?xF;{show h};show ?X ?Zx h0);show Rx (?azf (?aiK i a ?abX ha)) q};exact ?ath ?jE ?jY;cases h:?xF;{let h1:?jE=fs k i:=?b3;let h2:=bl.fin.dg.le h;let h4:?aQ6<=?EF:=qf3 ?g (lW ?bk hz);let h5:?EF<?jY:=?acM;let h6:=?Iv i h;rw[h1];let:(fs k i).natAbs<=?aQ6:=?aCG;show ?aHS};rw[?Zx];show ?y0
def Xn[?dM][?pd][?au][?Ab]:∀b∈ps,?akP:=?avr (by ext apv;show ?b9Y g8 ?gy)
def TY[?dM][?tr](q:Int):?ath ?ajC (2 ^ (?aZv+40)):=by let bl:=?nn;let hz:?Pv:=?Xm;rw[←y6 q (?a1V).n,?OD];apply Ih (m:=?aZv+?bk) (Sa ?k0) ?g;let pb:=?aWW;unfold QS;split;{rw[y6 q pb.f.ok.n];show JP (pb.gb p) (pb.fb q)};show Mw _
private def DG[?ay][?dM][?pd][?au][?Ab]{D c:Ms}(hD:?aOp){N:Nat}(bD:∀q,?aau<2 ^ N)[?M6](ec:?aOG){b:BPart}(hb:b∈ps) : ∃X:Int,?nP=b.1*X/\?b6h (N+40):=by ext apv;let hi:=?gy;let bl:=?nn;let pb:=?aWW;let hw:?G6<=40:=?Y8;(let e1:?Cx=?adk:=by let e2:?Cx=wF ?JS ?aP0:=(BL pb.g hc).symm;let hcb:=Ks hs (k:=?cE) (ms:=D) (?az1 hD.key);(let hbk:∀p∈?sr,?v∈?we:=?au5 ?cE);let hnb:nd ?sr:=?aRF;rw[e2,←IA,pb.g.wF,?aZX];show ?atY (by rw[ec,qf8]));(let e3:?adk=?jE*?j (λd=>An D ?aIQ*(if ?xF then ?aa1 else 0)) ?G6:=by rw[hD.wF,←Bd];apply Ag ?x4;let h1:=dJ (xs:=xs) (k:=?cE) (u:=?aEe) (c:=d);rw[?asC (?cE-1=k)]at h1;let h2:?cd xs ?Ve ?aIQ=?jE*?aa1:=?A5 (?aD8 bl.fin.dg bl.fin.ir hi hd);rw[h2];cases h:?xF;{rw[?b3];grind};rw[?ad,?Zx];grind);apply#[_,?aR6 e3,Ih (m:=N+bookF+?G6) (Sa (?ayV ?aTv)) ?g];split;{rename_i h;show bl.fin.br.2 i d (qb0 h bl.kw) hd};show Mw _
universe e9
def ChL.chain[?u][?uN](h:?l8):?F8 xs k c=true:=by unfold chainB;rw[qe3];intro p hp;let:=Cn (?b7u h.key);let hz:=?aPg;unfold Kd;rw[qc2];apply#[?_,qf0 hz];exact ?b5Y ?qD ?X1 (?b9i ?Ht);rw[qf0 ?oB,qf0 ?xX,qf0 ?C4];rfl
def YQ[?u][?ay][?uN][?arQ]:?rc=[]:=by let hcb:=Ks hs (k:=k) (ms:=c) ?aYO;cases e:?rc with| nil=>rfl| cons r l =>(let hm:r∈?rc:=by rw[e];show ?c2);let h1:=?QU hcb r hm;unfold Kd at h1;rw[qc2]at h1;let h2:=qc9 h1.2;let hn:nd ?rc:=Lg xs c _;(let h3:An ?rc r.1=r.2:=by unfold An;rw[?aPS];rfl);show ?X (h3.symm.trans (hz r.1)) h2
structure MS[?N](k:Int)[?br](c:Ms):Prop where
 ch:?l8
 z:?qc
 b:?aX4
 w:∀p∈ps,∃n X:Int,?XB=n+?v*X/\n.natAbs<?RW/\X.natAbs<?RW
def MS.div[?u]{k:Int}[?au]{c:Ms}(h:?aOk){p:BPart}(hp:p∈ps)(pb:?aVt)(h0:?aml):∀t∈?i8,?b7V ?agv:=λt ht=>by
 let#[n,X,e,hn,hX]:=?b7u h.w;let nn:=pb.nn;let e1:?agv=n / ?v+X:=by rw[e,Int.add_mul_ediv_left _ _ h0]
 let e2:(n / ?v).natAbs<?RW:=Lat.fdiv_small ?g hn;let e3:=YR e2 hX;rw[e1,←pb.f.ok.val ht];show L6 e3 (pb.fb _) (by unfold yR bookF;decide)
section
variable[?n]
abbrev kG[?d0]:Sp:=?asE (MX λ ?fJ ?a4X ?ah ?aL ?G9 ?G2 ?R0=>zJ ?iU (O a=?PJ) (Fy ?fM O wu lf) ?aRh ?aGk ?Su ?l8 ?SB ?dy (∀p∈c,?b6l ?HO/\∀t∈?HO,?cN p.2 t.2) (?b6k (Jx lf c)))
abbrev Vw:Sp:=?asE (X9 λ ?fJ ?ah ?zv ?R0=>EI ?iU ?bP ?dF ?dy ?Su ?eB ?aHD ?qc ?aEP)
structure w9[?N](k:Int)[?br](c m:Ms):Prop where
 ch:?b6l m
 sum:∀q,?aBj+(?io ?QJ).sum=?qS
abbrev kJ[?ca]:Sp:=λvs H Q _=>MX λ(p b:Addr) ?zv ?ru ?ah ?op ?PK ?R0=>EI (?b7F (?t ?aL) ?bT) ?jz ?t9 (?auL B b) ?eB ?ot ?Su ?aBE (∀(T N D:Addr) (m:Ms) (H':Hp),?auL H T->?auL H N->?bl->T≠N->T≠D->N≠D->?aM->H' T=?awH [?I N,?cr]->?b4H H' N ((?zG (Xz c)).map ?aB)->?b3U cK->?C1->?b9D (?I T))
universe e9
def ChL.edge[?u][?ay][?eJ]{k:Int}{D:Ms}(h:?a3I):?aTA/\∀φ,Hb.wF φ ?XZ=Hb.wF φ ?sr:=by let hcb:=Ks hs (k:=?F) (ms:=D) ?aYO;(let hbk:∀p∈?sr,?JI:=?au5 ?F);let hc:?aTA:=#[?b23 D,?axy (by rw[Q0];show Fp λz=>by let ?a8c:=?cD z;show hq (eu▸hbk u hu))];let hnb:nd ?sr:=?aRF;apply#[hc,λφ=>?_];rw[hc.wF,?aZX];show ?atY (by rw[Q0])
structure ZH[?N](k:Int)(hs:?g3)(j:Nat)[?ga](c:Ms):Prop where
 len:ns.length=j
 nb:∀n∈ns,n.natAbs<?Gi
 ch:?l8
 z:?qc
 b:?b0T (?Ua+178+j)
 w:∀(i:Nat) p,hs[i]?=?kJ->∃X:Int,?XB=(if ?co then ?mF else 0)+?v*X/\?b6h 176
def ZH.first[?u][?pJ][?ay][?dM][?pd][?au][?Ab]{D:Ms}(hD:?aOp)(bD:∀q,?aau<?Gi) : ZH xs ?aL ?c9 0 [] ?XZ:=by let#[hc,hw]:=hD.edge hs B8;apply#[?h,λn hn=>by simp at hn,hc,?jJ,?jJ,λi p hi=>?_];{rw[Ei,hw,←Ei,HD hs λp hp=>let h:=Cn (?b7u hD.key);#[h.1,?v5]];rfl};{rw[Q0,Ei,hD.wF];apply Ih (m:=138+?G6) (Sa ?aCT) ?_;{apply Ih (m:=136+2) ?aTv ?g;let h4:=Ja hs;apply qc1 (qL ?_ q) ?L;rw[qa1];cases e:xs[(?aW3 a 0).toNat]? with| none=>show ?a5| some x=>show ?a2O};let:=Et xs ?cE ?be;exact 138+(P4 xs ?cE ?be).length<=_;unfold bookF;ext d};let#[X,e,hX]:=DG hs t B8 hk hp hD bD hc (λq=>Q0 xs D q) (?jx ?tD).1;show#[X,by rw[e,?z,qk8],Ih hX ?l]
section
variable[?n]
universe e9
def zQ[?u][?uN][?eJ](h:?l8){φ:?cy}{m n:Nat}(hc:∀q,?GF<?yn)(hφ:∀q,(φ q).natAbs<?jv):?ath ?Jk (2 ^ (m+n+40)):=by rw[h.wF];let:=Et xs k ?be;show Ih (Sa λa _=>JP (hc _) (hφ _)) (by exact m+n+(?aV6).length<=_;ext d)
def Av2[?u]{k:Int}[?au]{c:Ms}[?eJ][?arQ](hb:?aX4)(pb:∀p∈ps,?aVt):?aOk :=#[h,hz,hb,?awc #[_,0,by rw[qe1,qe5],Ih (zQ B8 h hb (?b7u pb).gb) (by unfold pK fD yR;ext d),Mw _]]
def Au4[?dV]:∀l:?d6,(?zJ ?nO).sum=0| []=>rfl| _::l=>by rw[qd7,qm8,Au4 l];rfl
def fT:∀c:Ms,∃N,?b0T N| []=>#[0,λq=>by rw[Fq];show Mw _]| ?nb=>by let#[N,h]:=fT c;apply#[?X2+N,?jJ];rw[C3];split;{show qb0 qs5 ?oI};show Ih (h q) ?g
section
variable[?u][?pJ]
def A64[?ay][?dM][?pd][?au][?Ab]{c m:Ms}[?M6](hr:?C1):(∀b∈?c9,Xz c b=0)↔ ?ayS pP ?JS:=by constructor;{intro h;apply pP.of hs hr.ch ?jJ;let:=?aPt;rw[?b2X (λb hb=>?b75 h b hb)]at this;rw[Au4 ?c9,qe5]at this;show this};intro h b hb;let#[D,hD,e]:=h.ch hs B8;let#[N,bN]:=fT D;let#[X,eX,_]:=DG hs t B8 hk hp hD bN hc e ?qs;unfold Xz;rw[eX];cases z:?p3;{rw[?b1,z,qg0]};rw[?e9,Int.mul_emod_right]
universe e9
universe Hb
namespace Hb
universe Hb
namespace L2
open PySem PySem.Spec PyProof.Rows PySem.SeqAt
section
variable[?Mo][?E]
universe e9
universe L2
namespace Hb
open PySem L2
section
variable[?AN]{zs ks zs' ks':?Y}{Ls Gs Ls' Gs':?NP}{fs fs':?cK}{lp rp lp' rp':?a4u}{ls ls':?jT}
universe e9
section
variable[?n]
universe e9
universe Hb
namespace Hb
def Q2{xs ys:LLInt}(h:?dF)(hf:∀j y,ys[j]?=?hG->eG (xs++?DT j) y):Bi ?JR:=λk p hk=>by cases hlt:?aao;{rw[?CF]at hk;rw[?UA];show h k p hk};rw[?oN]at hk;rw[List.take_append,qi6 ?g];show hf _ p hk
def dI[?u]{p c:?O}{e:Int}(hp:?ain\/?aJC)(h0:∀f∈p,?il/\?wG=?e3)(hc:∀x∈c,x=e)(hl:c.length-1+1=?Im):?qG:=by
 apply#[?g,?axY ((h0 f hf).1),?axY #[c,(h0 f hf).2,hl],?a7w];let e1:=(h0 f ?qO).2;let e2:=(h0 g ?tD).2;rw[eq]at e1;rw[er]at e2;cases e1;cases e2;let hjl:=?a4b;let at_:∀i,i<c.length->c[i]?=?L1:=?b66 (by rw[?tA,hc _ ?a9M])
 rw[at_ i ?g,at_ ?eF ?g]
abbrev IB(n k:Nat):?O:=[2,((1+?F%n:Nat):Int),((1+k:Nat):Int)]
abbrev DM(n:Nat):LLInt:=([]::?afo)++?yo (IB n)
def v3(n:Nat):(DM n).length=1+n+n:=by unfold DM;rw[qb6,qd5,qj4,qa3,ql2];ext d
def ME{n:Nat}(hn:2<=n):Bi (DM n):=by (let h0:Bi [([]:?O)]:=λk p hk=>by (let:p=[]:=by cases k with| zero=>show(qb1 hk).symm| succ k=>cases hk);ext er;show#[?cB,?akY,?akY,λh=>?X h ?L]);(let h1:Bi ?a8P:=?b6O h0 (by let hy:=(?We ?aS1).2;subst hy;show dI (c:=[]) (e:=0) ?cB (?axY (by (let:f=0:=?a7U);ext er;show#[?L,?h])) (?ax9 (by cases hx)) ?h));apply ?b6O h1 ?_;let#[hj,?h]:=?bi hy;rw[qa3,ql2]at hj;rw[List.getElem_map,List.getElem_range];let hm:?a0%n<n:=Nat.mod_lt _ (zc3 hj);(let at_:∀i,?M->(?a8P++(?yo (IB n)).take j)[1+i]?=?i [0,0]:=?b66 (by rw[qc5 ?iK,qc4 ?G,qi3,qp3,qp6,?gQ]));apply dI (c:=[0,0]) (e:=0) ?m4 ?EE (?ax9 ?wr) ?h;unfold IB at hf;rcases ?iS hf with rfl | hf;{show#[?L,at_ 1 ?g]};rcases ?iS hf with rfl | hf;{show(?azK hm)};rw[?nc hf];show(?azK hj)
abbrev Xr(m:Nat)[?N]:LLInt:=?ow λp=>?tH λf=>?p2+f
def YE{ds ys:LLInt}[?kd](h:eG ys p):eG ?Zq (?tH ?Hb):=by (let at_:∀(f:Int) [?Ay],?il->?Zq[?abC]?=?e2->∃q0,?aU6=?i q0/\q=q0.map ?Hb:=λf q h0 e=>by rw[?oN,?ass ?aOx ?aAo h0]at e;unfold Xr at e;rw[qa6]at e;cases e1:?aU6 with| none=>rw[e1]at e;cases e| some q0=>rw[e1]at e;show#[q0,?h,(?Gr).symm]);let of:∀f'∈?tH ?Hb,∃f∈p,f'=?aym f:=λf' hf=>let #[f,a,b]:=?N5;#[f,a,b.symm];apply#[by rw[qa3];show h.cnt,?aUD,?aUD,?a7w];{let ?ajO:=?aYR;let:=?aEK;ext d};{let ?ajO:=?aYR;let ?O6:=?Fy f hfp;let:=?aEK;apply#[q.map ?Hb,?bv];{rw[?oN,?ass ?aOx ?aAo ?P];unfold Xr;rw[qa6,e];rfl};unfold lev at l ⊢;rw[qa3,qa3];show l};rw[qa3]at h3;rw[qa6]at hj hi;cases e1:?JC with| none=>rw[e1]at hj;cases hj| some f0 =>cases e2:?H0 with| none=>rw[e2]at hi;cases hi| some g0 =>rw[e1]at hj;rw[e2]at hi;cases hj;cases hi;let#[q0,eq0,?h]:=at_ f0 q (?fc f0 (qa9 e1)) eq;let#[r0,er0,?h]:=at_ g0 r (?fc g0 ?aJD) er;rw[qa6,qa6,?w0 h3 i j f0 g0 q0 r0 hij e1 e2 eq0 er0]
def OJ{ds ys:LLInt}(h1:Bi ds)(h2:?IO):Bi ?Zq:=?b6O h1 (by unfold Xr at hy;rw[qa6]at hy;cases e:ys[j]? with| none=>rw[e]at hy;cases hy| some p =>rw[e]at hy;cases hy;let:=YE (ds:=ds) (h2 j p e);unfold Xr at this ⊢;rwa [qp5]at this)
def UM[?u]{i:Nat}[?kd](h:eG ?aOu p):?qG:=by (let up:∀(n:Nat) [?Ay],?aOu[n]?=?e2->?NR=?e2:=λn q e=>by rw[qj0]at e;split at e;{show e};cases e);apply#[h.cnt,?fc,?axY (let ?O6:=?aFR;#[q,?aE8,l]),λh3 i' j f g q r hij hj hi eq er=>?_];let#[q0,e0,_]:=?Fy f ?qO;let#[r0,e1,_]:=?Fy g ?tD;let a:=up _ _ e0;let b:=up _ _ e1;rw[eq]at a;rw[er]at b;cases a;cases b;show ?w0 h3 i' j f g _ _ hij hj hi e0 e1
def MQ[?u](h:?dF){i:Nat}[?kd](hp:?A3=?kJ):Bi ?a2C:=?b6O h (by cases j with| zero =>cases hy;rw[List.take_zero,qt6];show UM (h i p hp)| succ j=>cases hy)
universe Hb
namespace Hb
open PySem L2
section
variable[?n]
structure A76(last n:Int):Prop where
 l0:0<=last
 l1:last=0->n=0
 l2:0<last->n%last=0
abbrev KD:Sp:=?asE (Ex9 λ(a t c1 c2 c3:Addr) ?ah (k last:Int) (p:BPart)=>EI (vs=[?R,?f5,?dn,?t last]) ?bP (H t=?i (?b5 [?t ?v,?I c1,?I c2,?I c3])) (H c1=?b3j (p.2.1)) (?b93 c2 ?iL) (?b93 c3 ?i8) ?af7 (A76 last ?v) ?k6)
structure YU[?N][?AY][?eK]:Prop where
 n4:?aWE
 ok:∀k:Nat,?eB->?ayS sM ?zn
 few:∀k:Nat,?eB->?asa ?zn 40
 lfl:?SB
 lf:∀p:Nat,?aHG->Z1 xs (?b54 p+1) (?b6n p)
abbrev fN:Sp:=?asE (?b5T (Z3 ?aSb ?bP ?dy ?uy ?Xu ?aWS ?aHn ?k6))
structure Cj0[?N][?br]:Prop where
 rnd:mS xs ps
 ok:∀b∈ps,Dh ?mB/\Dh ?ex
 key:∀b∈ps,(∀q∈?mB,?s0)/\∀q∈?ex,?s0
 mul:∀b∈ps,∀q∈?mB,?cN b.1 q.2
 fil:∀b∈ps,?ayI ?JB (?b47 ?ex (b.2.2.2.length)) ?aCh
structure BookW75[?N][?AY][?eK]:Prop where
 sh:?dF
 len:?dy
 kin:?aHn
 row:∀k:Nat,?eB->Cj0 xs ?zn
 pc:∀p:Nat,?aHG->∃k,PN xs hl lf ?EP k
abbrev kE:Sp:=?asE (?b5T (Lj ?aSb ?bP ?uy ?Xu ?aWS (BookW75 xs hl lf) ?k6))
abbrev kD[?ca]:Sp:=?asE (SM λ(p a:Addr) ?m6 ?ru ?ah ?op=>Lj (?b7F ?R (?t ?cl)) ?jz ?t9 ?bP ?lC ?aeB ?k6)
abbrev FN:Sp:=?asE (Sx λ ?cp ?or ?ah (c:Int)=>Ey (vs=[?Db,?R]) ?Ci (?b96 H) ?dF (?gA+9*(c%3)<=40) (∀(a':Addr) (us':?a2) (ys:LLInt) (H':Hp),?aM->H' a'=?ZI->?b5h us' ?Vd->?IO->ys.length<=40->?b9D (?I a')))
universe e9
def book_w75[?E][?ki]{B:Hp}{p:Addr}[?u][?iv](bk:?jz):BookW75 xs ?Jo ?rM:=by let hs:=bk.sh;let B8:=bk.len;let n4:=bk.n4;ext aqS;(let ge:∀k:Nat,?eB->∃ps,?ot/\?aIf k []=?c9:=?az2 (by obtain⟨ps,hps⟩:?a90:=?aYo;show#[ps,hps,by rw[qa1,qa6,hps];rfl]));apply#[hs,B8,#[by rw[qa3,n4],?h4,?h4,P9 _ _,?eI],?h4,?eI];{let ?a4L:=?wu;rw[e];show(?Oj).holes B8};{let ?a4L:=?wu;rw[e];show ?m ?a1j ((?Oj).len B8)};{let#[k,h]:=?aKj;let h1:=h.lfr;let h2:=h.lv;rw[qb8]at h1 h2;rw[h2];show h1};{let ?a4L:=?wu;rw[e];let lv:=?Oj;let pb:?afS:=?aXf;apply#[lv.rounds hs B8,?avr #[?aVp,(?mG).f.ok],?avr #[?lY,?lY],λb hb q hq=>?_,?d9];{let:=Cn ((?mG).r.key q hq);show ?r2};{let:=Cn ((?mG).f.key q hq);show ?r2};{rw[←(?mG).r.ok.val hq];show L6 (?mG).nb ((?mG).rb _) (by unfold fD bookF;decide)};let LI:=?b23 ?ex;let wV:Dh ?aCh:=Dh.nil.lp ?aVp b.1;apply c6 LI.n wV.n LI.z wV.z ?jJ;rw[Q0,iV Dh.nil.n (?mG).r.ok.n,Ei,Fq,qk8];let hm:=?qs;rw[(?aXe).2]at hps;cases hps;let ?eO:=?zZ;cases h0:?jE=0;{exact wF _ ?Fx=?jE*_;rw[?A h0,h0,qg0];rfl};show r6 hs (?aXe).1 h0 q};show ?aKj
def f8[?dV](v:α):∀n,?azG v (?bh n v)| 0=>rfl| ?r=>by rw[qm1,qn8,f8 v n];rfl
def vY(c:Int):∃n:Nat,?adn/\?ajv=?aw:=#[(?ajv).toNat,?es]
def Af6(c:Int):∃n:Nat,?adn/\Vo [?aB 2,?t 4,?t 3,?t 4] ?wK=?i ?EY:=by let:?wK=0\/?wK=1\/?wK=2\/?wK=3:=?g;rcases this with h | h | h | h;{show#[2,?L,?jy]};{show ?aCL};{show#[3,?L,?jy]};show ?aCL
def Ag3(n1 n2:Nat)(c:Int):∃zs:?a6 Nat,Co [?aB (n1:Int),?aB (n2:Int)] ?aO (?i (c%3))=zs.map (λ ?Ft=>?aB ?aw)/\(zs.length:Int)=c%3/\∀z∈zs,z=n1\/z=n2:=by let:c%3=0\/c%3=1\/c%3=2:=?g;rcases this with h | h | h;{show(?b0z [] (by cases hz))};{show(?b0z [n1] (?x (?nc hz)))};show(?b0z [n1,n2] ?aBk)
def ZR(n j:Nat):[?aB 2,?aB (1+(?Kn+1)%?aw),?aB (1+?Kn)]=(IB n j).map ?aB:=by exact _=[?aB 2,?aB ?aGp,?aB ?a9X];rw[show ?aGp=1+(?Kn+1)%?aw by rw[qk8,qz8,Int.natCast_emod,qz8];rfl,?asC (?a9X=1+?Kn)]
def WS{m:Ms}{i:Int}(hm:Dh m)(hg:∀q,?auo ?a0r q i):?ayI ?JB m [(i,1)]:=c6 hm.n ?a7f hm.z ?aNZ λq=>by rw[hg,C3,Fq];cases z:q=i;ext ape
def Oj.orders[?u]{k:Int}[?au][?Ap]:?zG (·.1)=?Qh++?bh ?a01 0:=by let(?b3X b):=h;rw[b.count,b.twist,show(noB ?wz).map (·.1)=(?aBm (·.1)).filter (λn=>?w ?ZG) from by unfold noB;rw[qv8];rfl,?S1,qj1];congr 1;{apply qx5 λn hn=>?_;let ?eO:=?cD hn;let:=?aXn;cases h:1<?aC;{rw[qf0 h,qf0 ?g]};rw[?HD,?P8]};show ?aiY
structure Bt0[?N](k:Nat)[?br](c:Ms):Prop where
 rnd:?aBE
 due:∀m,?C1->?zG (Xz c)=?bh (?c9).length 0
 rest:∀m,?C1->Z1 xs ?cE m/\(∀q∈m,?s0)/\?ayI ?JB (?b47 m m.length) c
def sW[?E][?ki]{B:Hp}{p:Addr}[?u][?iv](bk:?jz){i:Nat}(hi:?lC)(hlv:?aeB):∃(k:Nat) (ps:?g3),?eB/\?Dg=?cE/\?ot/\Bt0 xs k ps ?F9:=by let hs:=bk.sh;let B8:=bk.len;ext aqS;(let h4:?BY<=4:=by rw[qa1,?tA];show Ja hs _ ?a9M);let e0:=Vf ?BY;obtain⟨k,ek⟩:∃k:Nat,?Dg=?cE:=#[(?Dg-1).toNat,?g];let hk:?eB:=?g;obtain⟨ps,hps⟩:?a90:=#[_,qa0 (by let:=bk.n4;ext d)];let hm:?cl∈?Rh:=K6 ?g (?IZ hi) (by rw[qb8];show ek);let hD:?awF ?aQ0:=#[#[?a7f,?aNZ,(?axy (by rw[?nc hq];show#[qn1 i,zc9.mpr (qb0 hi B8)]))],?axy (by rw[C3,Fq,?s λ(z:?cl=q)=>hq (z▸hm)])];(let bD:∀q,?b5t [(?cl,?c7)] ?Gi:=λq=>by rw[C3,Fq];split;{show(?L:?Qb<?Gi)};show ?y0);let dr:=ZH.first hs ti B8 hk hps hD bD;let pb:?afS:=?aXf;let hc:?ayS ChL ?F9:=dr.ch;let Br6:∀m,w9 xs ?aL ?c9 ?F9 m->∀b∈?c9,Xz ?F9 b=0:=λm hr=>(A64 hs ti B8 hk hps hc hr).mpr (pP.of hs hD λq=>(Q0 xs ?aQ0 q).symm);apply#[k,ps,hk,ek,hps,Av2 B8 hc dr.z (λq=>Ih (dr.b q) (by unfold pK bookF;decide)) pb,λm hr=>?_,λm hr=>#[hr.ch.lvok,?lY,?_]];{rw[?b2X (Br6 m hr),List.map_const']};{let:=Cn (hr.ch.key q hq);show ?r2};let LI:=?b23 m;apply c6 LI.n hc.ok.n LI.z hc.ok.z ?jJ;let:=?aPt;rw[?b2X (λb hb=>by rw[Br6 m hr b hb,qg0])]at this;rw[Au4 ?c9,qe5]at this;rw[Q0];show this
def Gm{S:St}{p0:?ar}[?ai](k:∀H,?KU->?aLA):?asH (σ=S/\?KU):=by rintro _ H ⟨rfl,h0⟩;show k H h0
def pW{S:St}{p0 p1:?ar}[?ai](k:∀H,?KU->p1 H->?aLA):?asH (Ft (σ=S) ?KU (p1 H)):=by rintro _ H ⟨rfl,h0,h1⟩;show k H h0 h1
def vQ[?fh]{p0:?mw}[?ai](k:∀x0 H,?qE->?tQ):?asH (?b4e (?gE/\?o3)):=by rintro _ H ⟨x0,rfl,h0⟩;show k x0 H h0
def Sy[?fh]{p0 p1:?mw}[?ai](k:∀x0 H,?qE->?zl->?tQ):?asH (?b4e (Ft ?gE ?o3 ?vu)):=by rintro _ H ⟨x0,rfl,h0,h1⟩;show k x0 H h0 h1
def Pn[?fh]{p0 p1 p2:?mw}[?ai](k:?auh ?tQ):?asH (?b4e (Bv ?gE ?o3 ?vu ?Eu)):=by rintro _ H ⟨x0,rfl,h0,h1,h2⟩;show k x0 H h0 h1 h2
def JU[?fh]{p0 p1 p2 p3:?mw}[?ai](k:?auh (?WM->?tQ)):?asH (?b4e (Di ?gE ?o3 ?vu ?Eu ?Se)):=by rintro _ H ⟨x0,rfl,h0,h1,h2,h3⟩;show ?b3H H
def Bd8[?fh]{p0 p1 p2 p3 p4:?mw}[?ai](k:?auh (?WM->?aU5->?tQ)):?asH (?b4e (Ey ?gE ?o3 ?vu ?Eu ?Se ?aUK)):=by rintro _ H ⟨x0,rfl,h0,h1,h2,h3,h4⟩;show k x0 H h0 h1 h2 h3 h4
def PV[?fh]{p0 p1 p2 p3 p4 p5:?mw}[?ai](k:?auh (?WM->?aU5->p5  x0 H->?tQ)):?asH (?b4e (Lj ?gE ?o3 ?vu ?Eu ?Se ?aUK (p5 x0 H))):=by rintro _ H ⟨x0,rfl,h0,h1,h2,h3,h4,h5⟩;show k x0 H h0 h1 h2 h3 h4 h5
def VP[?hX]{p0:?xy}[?ai](k:∀x0 x1 H,?wy->?wB):?asH (?b3v (?iA/\?vB)):=by rintro _ H ⟨x0,x1,rfl,h0⟩;show k x0 x1 H h0
def Aj8[?hX]{p0 p1:?xy}[?ai](k:?avA ?wB):?asH (?b3v (Ft ?iA ?vB ?Ek)):=by rintro _ H ⟨x0,x1,rfl,h0,h1⟩;show k x0 x1 H h0 h1
def pV[?hX]{p0 p1 p2:?xy}[?ai](k:?avA (?Qj->?wB)):?asH (?b3v (Bv ?iA ?vB ?Ek ?Ys)):=by rintro _ H ⟨x0,x1,rfl,h0,h1,h2⟩;show ?b3G H
def Aj7[?hX]{p0 p1 p2 p3:?xy}[?ai](k:?avA (?Qj->?aFZ->?wB)):?asH (?b3v (Di ?iA ?vB ?Ek ?Ys ?aAB)):=by rintro _ H ⟨x0,x1,rfl,h0,h1,h2,h3⟩;show k x0 x1 H h0 h1 h2 h3
def Bd7[?hX]{p0 p1 p2 p3 p4 p5 p6:?xy}[?ai](k:?avA (?Qj->?aFZ->?b4x p4->?b4x p5->?b4x p6->?wB)):?asH (?b3v (Z3 ?iA ?vB ?Ek ?Ys ?aAB (?b8t p4) (?b8t p5) (?b8t p6))):=by rintro _ H ⟨x0,x1,rfl,h0,h1,h2,h3,h4,h5,h6⟩;show k x0 x1 H h0 h1 h2 h3 h4 h5 h6
def Aj6[?hV]{p0:?sT}[?ai](k:∀x0 x1 x2 H,?rr->?rO):?asH (?b3h (?gx/\?q5)):=by rintro _ H ⟨x0,x1,x2,rfl,h0⟩;show k x0 x1 x2 H h0
def Aj5[?hV]{p0 p1:?sT}[?ai](k:?atX ?rO):?asH (?b3h (Ft ?gx ?q5 ?yB)):=by rintro _ H ⟨x0,x1,x2,rfl,h0,h1⟩;show k x0 x1 x2 H h0 h1
def vP[?hV]{p0 p1 p2:?sT}[?ai](k:?atX (?Ds->?rO)):?asH (?b3h (Bv ?gx ?q5 ?yB ?E0)):=by rintro _ H ⟨x0,x1,x2,rfl,h0,h1,h2⟩;show ?b1T H
def Bd6[?hV]{p0 p1 p2 p3:?sT}[?ai](k:?atX (?Ds->?Sz->?rO)):?asH (?b3h (Di ?gx ?q5 ?yB ?E0 ?Ox)):=by rintro _ H ⟨x0,x1,x2,rfl,h0,h1,h2,h3⟩;show k x0 x1 x2 H h0 h1 h2 h3
def bK[?hV]{p0 p1 p2 p3 p4:?sT}[?ai](k:?atX (?Ds->?Sz->?aM4->?rO)):?asH (?b3h (Ey ?gx ?q5 ?yB ?E0 ?Ox ?abq)):=by rintro _ H ⟨x0,x1,x2,rfl,h0,h1,h2,h3,h4⟩;show k x0 x1 x2 H h0 h1 h2 h3 h4
def Bd5[?hV]{p0 p1 p2 p3 p4 p5:?sT}[?ai](k:?atX (?Ds->?Sz->?aM4->?b4L p5->?rO)):?asH (?b3h (Lj ?gx ?q5 ?yB ?E0 ?Ox ?abq (?b8l p5))):=by rintro _ H ⟨x0,x1,x2,rfl,h0,h1,h2,h3,h4,h5⟩;show k x0 x1 x2 H h0 h1 h2 h3 h4 h5
def Bd4[?AG]{p0:?Qz}[?ai](k:?b4h ?UD):?asH (?b40 (?za/\?Wf)):=by rintro _ H ⟨x0,x1,x2,x3,rfl,h0⟩;show ?at2 k H h0
def Bd3[?AG]{p0 p1 p2:?Qz}[?ai](k:?b4h (?aUc->?aeg->?UD)):?asH (?b40 (Bv ?za ?Wf ?aXC ?amJ)):=by rintro _ H ⟨x0,x1,x2,x3,rfl,h0,h1,h2⟩;show ?b0G H
def VO[?AG]{p0 p1 p2 p3 p4:?Qz}[?ai](k:?b4h (?aUc->?aeg->?avG p3->?avG p4->?UD)):?asH (?b40 (Ey ?za ?Wf ?aXC ?amJ (?b8j p3) (?b8j p4))):=by rintro _ H ⟨x0,x1,x2,x3,rfl,h0,h1,h2,h3,h4⟩;show ?ayL H
def Bd2[?AE]{p0 p1 p2:?b1B A4}[?ai](k:?b4g ?af4):?asH (?b3q (Bv ?y7 ?aa3 ?aAA ?aQO)):=by rintro _ H ⟨x0,x1,x2,x3,x4,rfl,h0,h1,h2⟩;show k x0 x1 x2 x3 x4 H h0 h1 h2
def Aj4[?AE]{p0 p1 p2 p3 p4:?b1B A4}[?ai](k:?b4g (?auJ p3->?auJ p4->?af4)):?asH (?b3q (Ey ?y7 ?aa3 ?aAA ?aQO (?b8i p3) (?b8i p4))):=by rintro _ H ⟨x0,x1,x2,x3,x4,rfl,h0,h1,h2,h3,h4⟩;show ?axe H
def Bd1[?LF]{p0 p1 p2 p3:?asF ?ar}[?ai](k:?b4J ?a9B):?asH (?b8h (Di ?Cf ?aVa ?a7c ?aNo ?aYC)):=by rintro _ H ⟨x0,x1,x2,x3,x4,x5,rfl,h0,h1,h2,h3⟩;show ?axd H
def Bd0[?LF]{p0 p1 p2 p3 p4:?asF ?ar}[?ai](k:?b4J (?atn p4->?a9B)):?asH (?b8h (Ey ?Cf ?aVa ?a7c ?aNo ?aYC (?b3m p4))):=by rintro _ H ⟨x0,x1,x2,x3,x4,x5,rfl,h0,h1,h2,h3,h4⟩;show k x0 x1 x2 x3 x4 x5 H h0 h1 h2 h3 h4
def Bc9[?A8]{p0 p1 p2:?a53}[?ai](k:?b3i ?R5):?asH (?b8g (Bv ?um ?a2J ?Up ?V2)):=by rintro _ H ⟨x0,x1,x2,x3,x4,x5,x6,x7,rfl,h0,h1,h2⟩;show k x0 x1 x2 x3 x4 x5 x6 x7 H h0 h1 h2
def Bc8[?A8]{p0 p1 p2 p3 p4 p5 p6:?a53}[?ai](k:?b3i (?b97 ?R5)):?asH (?b8g (Z3 ?um ?a2J ?Up ?V2 ?aBd ?ai4 ?aIK ?aMd)):=by rintro _ H ⟨x0,x1,x2,x3,x4,x5,x6,x7,rfl,h0,h1,h2,h3,h4,h5,h6⟩;show k x0 x1 x2 x3 x4 x5 x6 x7 H h0 h1 h2 h3 h4 h5 h6
def Aj3[?A8]{p0 p1 p2 p3 p4 p5 p6 p7:?a53}[?ai](k:?b3i (?b97 (?asR p7->?R5))):?asH (?b8g (EI ?um ?a2J ?Up ?V2 ?aBd ?ai4 ?aIK ?aMd (?b3d p7))):=by rintro _ H ⟨x0,x1,x2,x3,x4,x5,x6,x7,rfl,h0,h1,h2,h3,h4,h5,h6,h7⟩;show k x0 x1 x2 x3 x4 x5 x6 x7 H h0 h1 h2 h3 h4 h5 h6 h7
def Bc7[?arq]{S:?asF (A6->A7->A8->St)}{p0 p1 p2:?asF (A6->A7->A8->?ar)}[?ai](k:∀x0 x1 x2 x3 x4 x5 x6 x7 x8 H,?aug p0->?aug p1->?aug p2->let s:=?ae7;?i0):?asH (Ex9 λx0 x1 x2 x3 x4 x5 x6 x7 x8=>Bv (σ=?ae7) (?b3y p0) (?b3y p1) (?b3y p2)):=by rintro _ H ⟨x0,x1,x2,x3,x4,x5,x6,x7,x8,rfl,h0,h1,h2⟩;show k x0 x1 x2 x3 x4 x5 x6 x7 x8 H h0 h1 h2
def As9[?ard]{S:?asF (?b3l St)}{p0 p1 p2 p3:?asF (?b3l ?ar)}[?ai](k:∀x0 x1 x2 x3 x4 x5 x6 x7 x8 x9 H,?at5 p0->?at5 p1->?at5 p2->?at5 p3->let s:=?aLo;?i0):∀σ H,(VC λx0 x1 x2 x3 x4 x5 x6 x7 x8 x9=>Di (σ=?aLo) (?asG p0 H) (?asG p1 H) (?asG p2 H) (?asG p3 H))->?ac:=by rintro _ H ⟨x0,x1,x2,x3,x4,x5,x6,x7,x8,x9,rfl,h0,h1,h2,h3⟩;show k x0 x1 x2 x3 x4 x5 x6 x7 x8 x9 H h0 h1 h2 h3
def Hn{S:St}[?ai]{H0:Hp}(k:let s:=S;G s H0):?asH (σ=S/\H0=H):=by rintro _ _ ⟨rfl,rfl⟩;show k
def Ak0[?fh][?ai]{H0:Hp}(k:∀x0,?aak):?asH (?b4e (?gE/\H0=H)):=by rintro _ _ ⟨x0,rfl,rfl⟩;show k x0
def Aj9[?fh]{p0:?mw}[?ai]{H0:Hp}(k:∀x0,p0  x0 H0->?aak):?asH (?b4e (Ft ?gE (H0=H) ?o3)):=by rintro _ _ ⟨x0,rfl,rfl,h0⟩;show k x0 h0
def ex2{A0 A1:Type}{p:?s4}{G:Prop}(k:∀x0 x1,?WB->G)(h:∃x0 x1,?WB):G:=h.elim λx0 h=>h.elim λx1 h=>k x0 x1 h
def Ci6{p0 p1 p2 G:Prop}(k:?awM G)(h:p0/\p1/\p2):G:=k h.1 ?v5 ?s5
section
variable{g:TG}{x:V}{t1 t2 t3 t4 t5 t6 t7 t8 t9 VD t11 t12 t13 t14:TS}{D:Ends}[?fj]
def Ae5{tc:?b3k ?El}{k:?El}(h:let k':=k;tc σ H k'):tc σ H k:=h
def letG1(h:let D':=D;?ayN D'):?ayN D:=h
def let2(h:let D':=D;let u2:TS:=t2;?aZz):?azV t2 D H:=h
def letG2(h:let D':=D;let u2:TS:=t2;?a9D):?asZ t2 D:=h
def let3(h:let D':=D;let u3:TS:=t3;?am5):?azV ?aEu D H:=h
def letG3(h:let D':=D;let u3:TS:=t3;?ane):?asZ ?aEu D:=h
def let4(h:let D':=D;let u4:TS:=t4;?aLx):?azV ?aic D H:=h
def letG4(h:let D':=D;let u4:TS:=t4;?aQy):?asZ ?aic D:=h
def let5(h:let D':=D;let u5:TS:=t5;?aWe):?azV ?a8X D H:=h
def letG5(h:let D':=D;let u5:TS:=t5;?aCW):?asZ ?a8X D:=h
def let6(h:let D':=D;let u6:TS:=t6;?aCB):?azV ?aE7 D H:=h
def letG6(h:let D':=D;let u6:TS:=t6;let u5:TS:=?akw;?aCW):?asZ ?aE7 D:=h
def let7(h:let D':=D;let u7:TS:=t7;?acV):?asK t7:=h
def let8(h:let D':=D;let u8:TS:=t8;?aQd):?asK (At t7 t8):=h
def let9(h:let D':=D;let u9:TS:=t9;?afA):?asK (At t7 (At t8 t9)):=h
def let10(h:let D':=D;let vU:TS:=VD;?ajA):?asK (?b4U VD):=h
def let12(h:let D':=D;let u12:TS:=t12;?aGy):?asK (?b4U (At VD (At t11 t12))):=h
def let13(h:let D':=D;let u13:TS:=t13;let u12:TS:=At t12 u13;?aGy):?asK (?b4U (At VD (At t11 (At t12 t13)))):=h
universe e9
universe Hb


namespace Hb
open PySem L2
def Nm[?fh]{p0:?KM}[?bK](k:∀x0,?sS->?Bs):?asQ (?b4e (?gE/\?sS)):=by rintro _ ⟨x0,rfl,h0⟩;show k x0 h0
def Ao6[?fh]{p0 p1:?KM}[?bK](k:∀x0,?sS->?B7->?Bs):?asQ (?b4e (Ft ?gE ?sS ?B7)):=by rintro _ ⟨x0,rfl,h0,h1⟩;show k x0 h0 h1
def QU[?fh]{p0 p1 p2:?KM}[?bK](k:∀x0,?sS->?B7->p2 x0->?Bs):?asQ (?b4e (Bv ?gE ?sS ?B7 (p2 x0))):=by rintro _ ⟨x0,rfl,h0,h1,h2⟩;show k x0 h0 h1 h2
def Jc[?fh]{p0 p1 p2:Prop}[?bK](k:?awM ?aQQ):?asQ (?b8o ?amS):=by rintro _ ⟨h0,h1,h2,x0,rfl⟩;show k h0 h1 h2 x0
def CV[?fh]{p0 p1 p2 p3:Prop}[?bK](k:?awM (p3->?aQQ)):?asQ (?b6P ?amS):=by rintro _ ⟨h0,h1,h2,h3,x0,rfl⟩;show k h0 h1 h2 h3 x0
def GD[?hX]{p0:?s4}[?bK](k:∀x0 x1,?ls->?wh):?asQ (?b3v (?iA/\?ls)):=by rintro _ ⟨x0,x1,rfl,h0⟩;show k x0 x1 h0
def Ao5[?hX]{p0 p1:?s4}[?bK](k:?axx ?wh):?asQ (?b3v (Ft ?iA ?ls ?re)):=by rintro _ ⟨x0,x1,rfl,h0,h1⟩;show k x0 x1 h0 h1
def aC[?hX]{p0 p1 p2:?s4}[?bK](k:?axx (?Fj->?wh)):?asQ (?b3v (Bv ?iA ?ls ?re ?Fj)):=by rintro _ ⟨x0,x1,rfl,h0,h1,h2⟩;show k x0 x1 h0 h1 h2
def An4[?hX]{p0 p1 p2:Prop}[?bK](k:?awM ?aem):?asQ (?b8o ?aHr):=by rintro _ ⟨h0,h1,h2,x0,x1,rfl⟩;show k h0 h1 h2 x0 x1
def Ao4[?hX]{p0 p1 p2 p3:?s4}[?bK](k:?axx (?Fj->?aSN->?wh)):?asQ (?b3v (Di ?iA ?ls ?re ?Fj ?aSN)):=by rintro _ ⟨x0,x1,rfl,h0,h1,h2,h3⟩;show ?b3H x1
def xN[?hX]{p0 p1 p2 p3:Prop}[?bK](k:?awM (p3->?aem)):?asQ (?b6P ?aHr):=by rintro _ ⟨h0,h1,h2,h3,x0,x1,rfl⟩;show k h0 h1 h2 h3 x0 x1
def AB[?hV]{p0:?sJ}[?bK](k:∀x0 x1 x2,?ii->?zj):?asQ (?b3h (?gx/\?ii)):=by rintro _ ⟨x0,x1,x2,rfl,h0⟩;show k x0 x1 x2 h0
def Ao3[?hV]{p0 p1:?sJ}[?bK](k:?aup ?zj):?asQ (?b3h (Ft ?gx ?ii ?lU)):=by rintro _ ⟨x0,x1,x2,rfl,h0,h1⟩;show k x0 x1 x2 h0 h1
def gD[?hV]{p0 p1 p2:?sJ}[?bK](k:?aup (?pu->?zj)):?asQ (?b3h (Bv ?gx ?ii ?lU ?pu)):=by rintro _ ⟨x0,x1,x2,rfl,h0,h1,h2⟩;show ?b3G x2
def V7[?hV]{p0 p1 p2 p3 p4:?sJ}[?bK](k:?aup (?pu->?Gm->?I0->?zj)):?asQ (?b3h (Ey ?gx ?ii ?lU ?pu ?Gm ?I0)):=by rintro _ ⟨x0,x1,x2,rfl,h0,h1,h2,h3,h4⟩;show k x0 x1 x2 h0 h1 h2 h3 h4
def Ao2[?hV]{p0 p1 p2 p3 p4 p5:?sJ}[?bK](k:?aup (?pu->?Gm->?I0->?aAc->?zj)):?asQ (?b3h (Lj ?gx ?ii ?lU ?pu ?Gm ?I0 ?aAc)):=by rintro _ ⟨x0,x1,x2,rfl,h0,h1,h2,h3,h4,h5⟩;show k x0 x1 x2 h0 h1 h2 h3 h4 h5
def aB[?AG]{p0 p1 p2:?b8X A3}[?bK](k:∀x0 x1 x2 x3,?a87->?aEo->?aSg->?aO9):?asQ (?b40 (Bv ?za ?a87 ?aEo ?aSg)):=by rintro _ ⟨x0,x1,x2,x3,rfl,h0,h1,h2⟩;show ?b1T x3
def Bk2[?AG]{p0 p1 p2:Prop}[?bK](k:?awM (∀x0 x1 x2 x3,?aO9)):?asQ (?b8o (?b40 ?za)):=by rintro _ ⟨h0,h1,h2,x0,x1,x2,x3,rfl⟩;show k h0 h1 h2 x0 x1 x2 x3
def Ao1[?AE]{p0 p1 p2:?HI}[?bK](k:?b3u ?OK):?asQ (?b3q (Bv ?y7 ?qY ?sU ?rU)):=by rintro _ ⟨x0,x1,x2,x3,x4,rfl,h0,h1,h2⟩;show ?b0G x4
def qU[?AE]{p0 p1 p2 p3 p4:?HI}[?bK](k:?b3u (?J3->?DS->?OK)):?asQ (?b3q (Ey ?y7 ?qY ?sU ?rU ?J3 ?DS)):=by rintro _ ⟨x0,x1,x2,x3,x4,rfl,h0,h1,h2,h3,h4⟩;show ?ayL x4
def Ao0[?AE]{p0 p1 p2 p3 p4 p5:?HI}[?bK](k:?b3u (?J3->?DS->?ag7->?OK)):?asQ (?b3q (Lj ?y7 ?qY ?sU ?rU ?J3 ?DS ?ag7)):=by rintro _ ⟨x0,x1,x2,x3,x4,rfl,h0,h1,h2,h3,h4,h5⟩;show k x0 x1 x2 x3 x4 h0 h1 h2 h3 h4 h5
def An9[?LF]{p0 p1 p2 p3:?XM}[?bK](k:?b4Y ?aBq):?asQ (?b8h (Di ?Cf ?JV ?Hw ?L3 ?Is)):=by rintro _ ⟨x0,x1,x2,x3,x4,x5,rfl,h0,h1,h2,h3⟩;show k x0 x1 x2 x3 x4 x5 h0 h1 h2 h3
def An8[?LF]{p0 p1 p2 p3 p4:?XM}[?bK](k:?b4Y (?afy->?aBq)):?asQ (?b8h (Ey ?Cf ?JV ?Hw ?L3 ?Is ?afy)):=by rintro _ ⟨x0,x1,x2,x3,x4,x5,rfl,h0,h1,h2,h3,h4⟩;show ?axe x5
def An7{A0 A1 A2 A3 A4 A5 A6:Type}{S:?asF (A6->St)}{p0 p1 p2 p3:?asF (?b4K A6)}[?bK](k:∀x0 x1 x2 x3 x4 x5 x6,?ah2->?aTq->?aDV->?aPZ->let s:=?ajW;G s):?asQ (Ex7 λx0 x1 x2 x3 x4 x5 x6=>Di (σ=?ajW) ?ah2 ?aTq ?aDV ?aPZ):=by rintro _ ⟨x0,x1,x2,x3,x4,x5,x6,rfl,h0,h1,h2,h3⟩;show ?axd x6
def An6[?A8]{p0 p1 p2 p3:?Xw}[?bK](k:?b4I ?amZ):?asQ (?b8g (Di ?um ?Eb ?Bn ?Ch ?Dd)):=by rintro _ ⟨x0,x1,x2,x3,x4,x5,x6,x7,rfl,h0,h1,h2,h3⟩;show k x0 x1 x2 x3 x4 x5 x6 x7 h0 h1 h2 h3
def An5[?A8]{p0 p1 p2 p3 p4 p5 p6:?Xw}[?bK](k:?b4I (?aad->?aeJ->?aBP->?amZ)):?asQ (?b8g (Z3 ?um ?Eb ?Bn ?Ch ?Dd ?aad ?aeJ ?aBP)):=by rintro _ ⟨x0,x1,x2,x3,x4,x5,x6,x7,rfl,h0,h1,h2,h3,h4,h5,h6⟩;show k x0 x1 x2 x3 x4 x5 x6 x7 h0 h1 h2 h3 h4 h5 h6
def xP[?arU]{S:?asF (?b3l (sP->St))}{p0 p1 p2 p3 p4 p5 p6 p7 p8:?asF (?b3l (sP->Prop))}[?bK](k:∀x0 x1 x2 x3 x4 x5 x6 x7 x8 x9 W2,?aZ0->?aDy->?aWb->?aXv->?afe->?abs->?aQP->?aHy->?af2->let s:=?aHk;G s):∀σ,(mW λx0 x1 x2 x3 x4 x5 x6 x7 x8 x9 W2=>SO (σ=?aHk) ?aZ0 ?aDy ?aWb ?aXv ?afe ?abs ?aQP ?aHy ?af2)->?bG:=by rintro _ ⟨x0,x1,x2,x3,x4,x5,x6,x7,x8,x9,W2,rfl,h0,h1,h2,h3,h4,h5,h6,h7,h8⟩;show k x0 x1 x2 x3 x4 x5 x6 x7 x8 x9 W2 h0 h1 h2 h3 h4 h5 h6 h7 h8
end
mutual
#check(4,[?a,?b,?c,.(by first|with_reducible(first|assumption|show Nat.le_trans ‹_› (Nat.le_of_ble_eq_true rfl)|show Nat.lt_of_lt_of_le ‹_› ‹_›|show Nat.le_of_lt ‹_›|show Nat.lt_of_lt_of_eq ‹_› ‹_›|show Nat.lt_of_lt_of_eq ‹_› (Eq.symm ‹_›)|show Nat.lt_of_le_of_lt ‹_› ‹_›|show Nat.succ_le_of_lt ‹_›|show Nat.le_of_not_lt ‹_›|show Nat.sub_le _ _|show Nat.le_of_succ_le ‹_›|show Nat.lt_succ_of_lt ‹_›|show Nat.le_add_right _ _|show Int.toNat_sub _ _|show Nat.le_trans (Nat.min_le_right _ _) ‹_›|show Nat.le_trans (Nat.sub_le _ _) (Nat.le_trans (Nat.le_of_eq ‹_›) ‹_›)|show Nat.sub_succ_lt_self _ _ ‹_›|show znb ‹_›|show znc ‹_›|show Nat.succ_sub ‹_›|show Int.natAbs_neg _|show znd ‹_›|show zne ‹_› ‹_› ‹_›|show znf ‹_› ‹_›|show znh ‹_›|show zng ‹_›|show zni ‹_›|show znj ‹_›|show Nat.add_sub_of_le (Nat.succ_le_of_lt ‹_›))|lia),.(by first|(apply Hb.let13 ?_;intro _ _ _ _ _ _ _ _ _ _ _ _ _)|(apply Hb.let12 ?_;intro _ _ _ _ _ _ _ _ _ _ _ _)|(apply Hb.let10 ?_;intro _ _ _ _ _ _ _ _ _ _)|(apply Hb.let9 ?_;intro _ _ _ _ _ _ _ _ _)|(apply Hb.let8 ?_;intro _ _ _ _ _ _ _ _)|(apply Hb.let7 ?_;intro _ _ _ _ _ _ _)|(apply Hb.let6 ?_;intro _ _ _ _ _ _)|(apply Hb.let5 ?_;intro _ _ _ _ _)|(apply Hb.let4 ?_;intro _ _ _ _)|(apply Hb.let3 ?_;intro _ _ _)|(apply Hb.let2 ?_;intro _ _)),.(by first|(apply Hb.letG6 ?_;intro _ _ _ _ _ _)|(apply Hb.letG5 ?_;intro _ _ _ _ _)|(apply Hb.letG4 ?_;intro _ _ _ _)|(apply Hb.letG3 ?_;intro _ _ _)|(apply Hb.letG2 ?_;intro _ _)|(apply Hb.letG1 ?_;intro _)),.(nomatch _,?h),rfl,.(nomatch _,_,?h,?h),some,.(nomatch _,?h,_,?h),.(by ext d),base,.of,.int,Same,upd,.(by rfl),zd0,λkey=>?_,.inl,key,pv 0,rS a,.lst,.ref,∀{f:Addr}{fd:FuncData},a,pv 1,λDr A outer s H vs Q E hr h=>?_,F.okZ,FnScope,∀(T:?Jo),a,.(by decide +kernel),pv 2,.(nomatch _,_,_),Bf _,.(nomatch ?h,?h),Same.new,C_Lines,.(nomatch ?l,?l),.(nomatch ?T,?h),gH ?_,Has,λ_ _=>rfl,V.int,none,Au λgG gH=>?_,C_Work,.(nomatch Ab,?_),pv 3,C_Stairs,.(by ext e),qb5,.inr,.(by decide),.(by ext G),rS p,.(by ext a6),.(by simpa using h1),.(by ext aA),Rep.same,.tup,.(by kernel_rfl),.(nomatch ?h,_),?cO Str,.(nomatch us,?h),pv 4,.(by simpa using this),Nat->?b1->St->Hp->Prop,Bl ?cq,rS la,C_Book,rS D,?YD Aw,?Xu Dp ?R,λ_ _ _ _=>B5,Reps.same,?YE H,.(nomatch ?h,hL),Nat->St->Hp->Prop,?XB El,spot,.(by simp;ext d),.(nomatch ?eR,Ab),λD hD=>?_,(i:Int),pv 5,i+1,?j ?T,mainGlobals,decide,.(nomatch ?_,?_),W.nsIn,rS b,?n Ab,"shape",Reps,rS hd,(k:Int),?Xu Ge (λ_ _ _=>rfl),"_law_shape",?TB ?ak,W.findIn,if_neg,.ins,"self",?YD Bb,_,?j v,?bF ?fS ?fS,.(by apply Hn ?_;intro sq),.(nomatch p,?Y,dx,fs),qb3 _,Jc ?_,pv 6,?cO V,.(nomatch p,?V,dx),.(nomatch hs,B8),.(nomatch b,?h),if_pos,T.cl_Work,T.n_range,?Tx ?a2,"number",?TL Be ?w,.(by(repeat (first | rw[As,?c7] | ext qo))<;>first | rfl | assumption),?T5 ?xQ,(D:Addr),?XD ?B,ite2,T.cl_Stairs,putF,?Xu Ke ?JA,xs.getD,"table",iS k,cK ms,PW.pt,T.n_len,?cO Int,u1 Mp,?j ?rR,s1.trans,?nP V,H=H',.(by ext bX),(0:Int),.(by simpa using h2),.(by let Mp:=hr.u8),.(by rw[qa3];ext d),"chain","place",qa0 hi,?bz ?l,"width",Ao (K:=K),.(nomatch ?h,?_),rS tp,SameX,rS ga,?L hp,?XD ?H,Nm ?_,Hs.nd,#[?g,?h,?g,?_],for_list,#[?g,?_],.(by show nomatch hl),"__init__",T.cl_Book,"_law_place",?a0i ?w,(?Wz ?h),?ZS ?H Ah,_,small,#[_,?h],?Yn G,.(nomatch a,b,xs),?bS s2,(t:Int),List.replicate,Ar.arn43,?b5 ?h,?j 1,pv 9,iS fam,#[?g,?i,?g,?_],?bW+?aX,rS E,Ku hx,LT.get,spot+1,V.ref,s2.trans,(?eU hv).1,.(nomatch l1,l2,l3,l4,l5),[?ar],λhnd o=>?_,?o i,List,(?VT ?_),Ar.arn47,Aj z,?YD Fi,[?ar,"k"],?S 0,iS b,[?cu],H' D,Kp.upd,A / g,"row",.(by let:=?fT),.(nomatch p,C,dx,fs),.(nomatch ?bG,?MS,l1),.(nomatch ?l,?_),.(nomatch ?h,x),iS i,SameX.upd,?j q,qa9 hq,[none],?a1n ?bE,?z a,Cv xs k,?j o,iS p,.(by simp),rS l,rS p1,rS L,"thing",?YD Fa,.dK [],pv 8,#[q,hq,?K],Do.nd,?Cz g3,?bz ?QD,R.same,C8.nd,f i,?ch ?sd,g.trans,.(nomatch p,?aJ,dx),.(nomatch ?h,ha),.(nomatch f,l,r),f+d,absurd,[?ar,?dp,?eA],(?Yk ?xQ),"other",?u ?h,?gd=?dk,?Zg ?ul,?ap (λz=>?dB (z▸hm) ?a3),?ZS ?aY Ah,as.map ?cH,T.cl_Lines,"told",V7 ?_,Rows,SameX.of,Cq.nd,"_law_k",T.n_isinstance,"_law_cell",?p H H1,s1.seq,?TJ [o],?z ?M,?Ti H D,xs.length,ns.length,j+1,?XD ?X,?ak+1,"turn",.(nomatch B,xs,ls,?h,bk),.(by intro z;cases z),.(nomatch t,c1,c2,c3,?h),.(nomatch xs,?h),Cj.nd,?Zc ys,?Zg (((?cn:Nat):Int)),R.same.seq,?u hq,_,"rows",D9.nd,?n ?iR,Bh hv,?ZP ?bv,E3.nd,?UU s1,q.1.toNat,?Tx ?gx,f j,W.keepIn,a.fdiv b,TI.sq,?XD ?aY,Ax ?aL ?bA ?B ?R,#[?a2,?a2],?j ?hI,?og g2,(j:Int),?j 0,Bl ?gx,"backs",?L hT1,E9 Ac,c%1000000%4,(?hE,Lat.one),sB.trans,Cb.nd,?z T1,?Yn H2,#[?r,?r,?r,?r],.(by ext eM),(?U3 p ?ag),.(by first | show Or.inl ?h | show Or.inr ?h),.(by simpa using hx.symm),.(nomatch p,?V,pC,OW),.(by rw[qb2];rfl),.(nomatch o3,?h),?L hD,?z ?V,Ay w fam,qa2.mp,?XB ?H,aB ?_,Same.refl,.(by ext dg),aC ?_,Cm.nd,(us:?b1),"one",?z D2,ns.map ?S,?q H2 R1 ?Dq,Dg xs p,iS n,Lat.Mat × Lat.Mat,?y [?gW],?z ?Y,rS nn,"_law_family",pv 7,?ZP ?bl,λC hC=>?_,Fk.nd,-?vD,?f3 ?_,t ?aT,?d6 g2,[none,?c8],Cv xs ?dd,λE hE=>?_,"_law_level_here","_law_total",AB ?_,T.n_dict,k-1,TI.mk,?TD (?cC=?aX),.(by rintro σ G Cl;revert σ),.(by apply ?U),.(nomatch H0,p,L,R,nm,n,w),.(nomatch H0,p,q,M,n,W,t),.(by let:=rG.length),.(by rw[?jI]),.(nomatch ?i3,?h),.(nomatch ?b6,T.na_Work_numbers),.(nomatch ?h,hS),Ck _ _ _,?XD ?bA,this,"lifts","law",rS tl,CV ?_,?ZS ?en Ah,s1.free,?XC ?bA ?H,s2.free,?cI s3,#[dx,fs,hp,?cK],(?eU hq).1,λh1=>?_,(?eU hx).1,(w.length:Int),[?ah,"k"],"numbers",lookI,xa.1,iS letters,rS N,?n Cu,?jM i,TI.same,#[_,qa0 ?l],id hL,?tw ?dZ ls,λt ht=>?_,qa3 ..,?j ?RL,?YE G,hc.1,.frz,?bF ?lu ?lu,Str->?nP Value,?TL ?mP hi,[?bK,?be],s3.trans,?a1d ?w,"pieces",?Tx ?cq,"_law_word",List.range,"right",J0 hv,?y [],(m:Ms),E4.nd,?YB hb,w+n,?YB ?tX,?XD Ah,(xs.length:Int),?bW+?e7,noB ps,Ed.nd,?eX _,?TL Bt ?w,rS ta,?gd=none,.(by ext cb;ext aF),?d6 g1,An m q,Kp.of,?o q.1,.(by apply ?av),.(by let#[s1,_]:=hz),.(nomatch ?jz,?h),.(nomatch ?b6,T.na_Work_left),.(nomatch ?a2,?h),.(nomatch ?T,?T),.(nomatch ?cq,?_),.(nomatch ?bd,?_),k H1 s1,os.map ?S,?XC ?w ?X,Dj.nd,λ_=>0,?o 0,["parts"],?Zg ?hP,x.same,top 68,λT1 hT1=>?_,Kc ys t,H1 D,w.map ?S,?z E,?a0O ?cg (?j ?BR),s.1 ?aT ?et,qo5 ?h,?L hC,?n et1,?YD Qb,cK ns,?Ti H a,(ws:?b1),?Sy ?w,s.1 i ?et,GD ?_,.(by ext eP),tG.trans s4,#[as,xa,na],rS tg,R2.same,.(by ext aU),[?ah,?ba],c≠D,rS c,#[?k,?N,?_],"list",Aj n1,s2.seq,s.1 i,[?am,?hw,?hz],(xs:LLInt),K.lookup,(us.length:Int),"papers",Ay ?j6 fam,"left",?bS sp,Lat.one,bo.1,s3.seqT,Rep.x,?y us,?TB ?lg,?z ?aJ,?UW ?dw,?a0T p ?DD,?fr s4,rP.1,(m:Int),.(by ext i8),[?ar,?de],T.n_list,?u ha,Aj n2,?L hE,Nat->Int,?TU (((k+1:Nat):Int)=?dd),[?tr],"blend",Aj ?o3,Aj hb,gD ?_,?ap ?a3,Af P1,?YB e,"_law_script",?c4+1,?a9 [],?eX H,[?ec,?dE],i<ms.length,V.bl,Gd ws ?G1,T.n_tuple,(o:?bT),Dh m,?j 2,"_law_face",λm hm=>?_,?YE H2,qa5 _,"_law_holes",ys.map tI,?fm o ?v2,"_law_lifts",#[_,z,_],"_law_cells",D8 ws ?jo (?Bz m),?n et,.(by(. (ext bB))),.(nomatch hp,?bG,?mL,l3),.(nomatch hp,?b6,?sa,l1),.(by rw[Aj n];show e),.(by simpa using h4),.(nomatch ?fl,?wJ,l1),.(nomatch et,e1,e2,e3),.(nomatch o,?bM,?h),?ap e,?TB ?ry,#[ta,vs,?h,hT,rT],?o 1,?a0i ?fN,?Zc ws,?YE G1,(o7:?bT),wF (An ?jm) ?eg,?gd=?iV,?XD ?en,?YD G0,y3.of,?a0i ?dt,?cI st,xa.2.1,?Yb H E,T.n_zip,(?a0D a x y),?Zc zs,"_law_i",q.1=0,?TL Bt ?B,[?ah,?cu,"level"],?z D1,#[T1,?g,?ag,?va],?UV g1,[?ar,"i"],?b5 e,_,qk2 _ _,"_law_book",?o p.1,1+?aX,F3.nd,(E:Addr),Cw Ac,_,.none,.cons,?bz (by rw[Bz];ext d),Ar.arz6,(?Tt t ?i3),Ci ?QT,(?g8).map,#[Jj,F7],ws.map tI,g.seq,w.take,(p1:Addr),#[r,b,lx,_],(v:V),?TL Nn Mp,ms.getD i (0,0),?ZS ?B Ah,"_law_hole",layer[j],?a1 ?h,R.free,Gf.nd,?vT ?S,#[[],?K,?tg hD,?O],F4.nd,?cO Addr,rS fi,g.free,[?ar,"i","j",?ec,?dE],b.2.1,Aj AU.symm,?j ?gI,?ZP ?fF,top 62,(?g8).take,s1.turn hD,Aa Ah ?g5,?f3 ?ag,((?db:Nat):Int),pv 11,‹_›,?YD Uc,?Zg ((n:Int)),Cr xs k,?z ta,G D=?dk,W.fnOf,λc q e=>?_,fam=0,hH.same,Cv xs 0,"_law_chain",(?U3 pr ?ag),"_law_words",Qz xs ms i,λa=>a=nm,Bh vI,?Sz ?fI ?fI N6,Le.mp hnd,"_law_other",b.2.2.1,#[?h,?_],?YK ?tl,?oZ p.toNat [],?Xy H',?a0q ?aY,qi5.mp,?XB ?B,?YB hp,top 57,?z p1,T.na_Work_right,s0.free,?o q.2,?a9 [?o sv,?o nv],sH.trans,λVp=>?_,Ic m f,.(by simp at e),ps.take,?XD ?aE,PySem.W.makesIn,fs.map ?S,#[x',hx',tx],[?hg],"_law_size",Jx ?fg c,λz=>?Pp,?TD (spot<n),?Ch s4,s0.trans,.(by let:=r.length;ext aF),#[g,_],?z t,Bi xs,pv 10,∀(Ch:?TN ?qS ?oL ?F5),a,∀(Du:?TF ?lM ?fq ?BB),a,∀(Fb:?T6 ?nw ?kv ?nk),a,.(by rintro ys τ H1 ⟨s1,Dv,rfl,_⟩),.(by apply Gm ?BU;intro sq),.(by apply ?bo),.(by rintro σ H2 Cl;revert σ),∀{α:Type}{P:?cO α->Prop},a,.(by show k H ?hj),.(by exact ?bW<3;decide),.(nomatch p,dx,fs,?h,hp,?Lt),.(nomatch dx,P,Lv,Lf,lu,wu,hp),.(nomatch ?h,?a2,?a2,?a2),.(nomatch d,f,l,r,hd,hv),.(nomatch ?fl,?p9,l2),∀(us:?cO α),a,"_law_hole_is",fam<0,.(by ext qt),(c':Int),"_law_shape_by",(?eF g),Be (K:=K) ?vN,?TL Bt ?e3,?bF ?Nj ?Nj,?a0C 40,?ZS ?X Ah,"faces",Fn (K:=K),PySem.W.plainGet,"column",?Tw Dv,"faces_agree",?ap h3,[?kJ],[?tm],"turned",Ja hs,?j 21,"__setattr__",?z Jf,q.trans q3,"is_whole","list_times","_law_words_with",?nP L2.V,#[z,e1,e2],(?tF).toNat,b≠D,#[_,_,?T,[],?h,?L hp0,?jP,?h],"_law_whole","gauge",?Wj ?_,?TZ ?g5,?Wr i,"lifts_of",Str.empty,1+n+n,?T5 #[?h,s1],?o 4,"first_misfit",cK c,"flipped",[(pl,1)],L7 lf (?k5 j),qh4 _ ?l,λc r n e=>?sx,?L hd,[?am,?ey,?j5,?Ke],?a0O ?gC ?fj,"shared_divisor",?K3 f k0 i,[?H6],cK [],"_law_sum_of_piece",Bw (?a1D Ch ?Ah),qg8 ha,"is_straight",?a0L hD,?a12 ?bl,λq=>?_,qU ?_,(need:Int),Lat.turnL,"chain_of",PySem.W.hasDictIn,"plus",PySem.W.plainOver,((i:Nat):Int),[?ar,?bb],?o ?c4,?a0i (?a1K ?h2 ?hS D7),Aj nD,g4.trans g5,#[i,hi,?h],Lat.blendR,λh2=>?_,rE.get hv,?y [v],[?ar,?bK,?be],"_law_most",?TZ ?bl,#[hi,?b4,hb],?a1 hq,?a9 [?nv,?z lp,?z gp,?z fl],?dV hS,rP.same,[?ah,"k",?ca],rS c1,cK ?eg,"add_faces",Jn.nd,(?L ndx).turn,#[?k,?g,?i,hb0,?aH,λpt hpt=>?_],#[bs,xb,nb],?z ga,"filling",T.na_Lines_rows,?o (fs.getD i 0),#[tva,pC,OW,hpa,l1a,l2a,l3a,l4a,l5a,l6a,l7a,_],"without_borders","across","places_of_level",T.na_Stairs_starts,Z4[j],λD2 Je=>?_,σ'=[?a4,none],xa.row,(?mT).1 i ?yc / s.1 ?dA ?yc,"product",s.1 j,?xi t i f s d,Ar.arn40,nd ms,?YD Gj,jL ?QT,?ZP ?nR,W.isFn,?Tx (λz=>nomatch (show false=true from z)),nb a ha,?ap ?l,((ds.length:Nat):Int),?XC ?w ?B,W0.2.2.2.2.2.1,"bool",(?vR).toNat,?dV hq,W0.2.2.2.2.2.2.2,"_law_chain_is",[?ec,?dE,?be],?TU ((?cC).toNat=i),?WL i,?a0q ?B,TI.get,?j ?hy,Gm ?GA,?YH ?w,[?ah,"k",?bb,?b9],"_law_border_told",((?aZ:Nat):Int),cK p.2.2.1,?j 63,M7.nd,Aa ?H ?dc,?fm o (.dK ?oo),"is_list_of_few",(?a0D ?xv ?MU ?OI),[?cu,?be],(?Xf o3 o4 o5),?L he,ls.map noB,(w:Int),sL.seq,"numbers_at","ones",T.na_Work_width,?a9 [?gI,?jz],W0.2.2.1,s4.trans s5,#[?g,k v H2 w s2 tv (hW w hwl)],Sum.inl,?a1 vV,"loop",wF (An ?vs) c,E9 ?g5,?j p,?sJ g4,hc.ch,#[a,pt,?i,?hG aW,?ag,?e9,λp3 H3 s4 q3=>?_],Option,[?ah,"k",?cu],?XD ?b0,?q H2 d ?rW,(ys:LLInt),qa0 hj,R2.same.trans,"parts_of","_law_cell_at",qa0 hm,?ap h0,#[a,?h,aW],An ?jm p,R2.same.free,"lift_of",[?cu,?sl],?ZP ?bE,qh2 ?fE,?ap hf,?z Hk,?TL Rn ?r,Ez K,layer,R1.free,c≠b,"many",R9 _ _,#[NB,v2,oS,jE,vV],?z Gk,"_law_any_shape",?TZ ?iP,#[z1,z2,z3],?o ?lV,"_law_level",R3.same,"bases_of","add_at",?a0b G1,Hz.nd,qn6 _ _,λz=>?_,IntMulOk,?UF h1,λl=>[l],"tuple",.(by show ?a2),JS ?eg q,[?de],ys=?dK,"start_of",#[?k,?i,#[hb0,hb1],?_],#[vE,ZJ],?Tr (?OT "object.__setattr__"),?We m,"is_chain_of_some_level",s3.free,(st:Int),p.getD,["k",?sl],"is_shape","_law_discs_by","lines",ns[j]%?wx,Nj ?B,?Cs i j 1 l,p.1=1,as.length=i,[?b9,?ba],T.n_all,.(by ext fA;show Dv),qa0 hi2,?q G e ?rx,lf.getD,.func,?UU gg,?XH Ix ?Le,"mixed","_law_word_by",.(by ext qu),g1.trans,?j 4,"diagonal",qj7 _ _,T.n_enumerate,"level_of","times",#[?g,?i,?e4,?ay,?QE],cK cs,"_law_kinds_are","weigh",IV ms n ns i,Ae5 ?_,hrep _ ?h,?wR ?h,W0.2.2.2.1,qm3 _ ?a2,"_law_book_is",?z D,"_law_piece_off",?Zg (((?ew:Nat):Int)),"is_whole_below",?UV s05,["spots",?ba],Aj AU,?Tl xs.length,[?bK,"j"],"one_row",?wc 1,hc.2.2,"is_list_of_wholes",?j ?fz,(?jV).length,"is_chain",(?fw i).map,?T3 q5 hD,?z b,[?b9],rS c2,?Zp m,?n Je,"fits",W0.2.2.2.2.1,R.same.trans,#[q,hq,pv],rS pa,?XD ?bx,∀f∈fs,0<=f/\f<?g6/\?ZL ?I2 need,qd6 _,T.na_Stairs_backs,((?et:Nat):Int),R.push,.(by simpa using xY),?Xu RH (λ_ _ _ _=>rfl),"_law_plus",Ci (Ek ?El).length,"is_place_of_level",QU ?_,w.length-1,"is_part",ZY i j g a b f r,"_law_without_noughts",(k0:Int),"border_table",Df.nd,C9 Ah,"stepped",Bc Cg ?aE Ah,?L hpt,?ir x0 x1,Aj nDa.symm,Aa ?X ?k6,W.codeIn,.(by ext kV),rS c3,T.m_Lines,T.na_Lines_backs,[?sO,"i"],"border",t≠D,Sv d f l r,(Z4.length:Int),R2.free,?Uv Dv,HT.sIx,iS c',?j ?rD,[?sO],(w:?bP),?k5 i,?j M,Ar.arz9,?AJ g1,m+1,λ_=>False,(o3 o4:?bT),"check_round",W0.2.2.2.2.2.2.1,"is_table",.str "add",[?ah,?cu,?sl],λr' b' G2 sx n1 n2 z=>?_,-?er,?UW j,"_law_weighed","_law_border_by",["a",?ec,"b",?dE],qk6.mp,[?lB,?ba],?z p,"check_level",?o ?d4,ns.getD i (0,0),?aZ+j,TI K H2 v w,¬N a,?Ti H0 a,?UV gp,"_law_turned_order",Cr xs ?f2,w.length=i,"_law_faces_by",[?cu,?no],[?ca,?be],[?hg,?dR],(?qb).length,∀(By:?TF ?mK ?fV ?FF),a,.(by apply ?y1),.(by apply bK λp1 us xs H1 s1 hp1 r hs B8=>?_),.(by apply ?Rb),.(by have ?fQ:=lx.ob),.(by apply ?cB),.(by rw[As,?hd]),.(by rw[?c7,X2];simp[h1]),.(by injection this with this),.(by have#[vE,ZJ,sm3]:=x.sm),.(by apply ?fu),.(by rw[qa3,?fY];show hi),.(by rw[qa3,xb.1];show hi),.(nomatch ?bt,?H9,?h),.(nomatch w,fam,?h),?UW i,?bz ?gx,?j q.2,?ZY (rS di),?q H10 e3 ?Jx,?a1G ?H,?q H5 p ?vE,?TG H T1 [?qH,?rR,?rD,?iF],Qa ti B8 AD ?D7,R3.rep hal,?U1 ?g8 ps.length,(?eU hy).1,?Y2 pt [?o ?Gj],?j ?sT,y3 r b H1 G,?L Je,?o ?e7,hfs f hf,?TG G' t2 ((?Bl).map ?S),?Ug BF,[none,?oh],?Ti H p,?a1Q ?pj ?pj,?TX 2,?a0b G',.(by rw[Ab];rfl),us++[v],λ_=>?_,UD c r n1 n2 e,.own p,?o ?aX,G' D=?wj,Z4.map ?S,[?bK,?be,?oO],?q G t ?hi,?a0A ?Ji,[?ar,?uk,"i"],σ'=[?a4,iS ?aT,?cg,?TB ?pU,?TB ?gh,?TB ?gq],?a1 ?C9,?a1Q Fm ?KO,(Rr:Addr),"put_in",Nz i _ hx,Nk ?bA ?H Gw,?XS M6,λi j=>?DZ,[?EI,?i1,?ly],NY (n:=8) Mp,.(λi ys τ G _ hz=>by ext zE),?a09 G,H' p1=?e5,.(λc o e=>by ext zG),?bz (by ext zP),qa0 hmf,?q H8 e1 ?KT,zP.same,"straighten",?T3 q5 et0,(x.same.trans s1).free,"holes",?ut (?eF g),.(by ext fA;show Cu),.dK ?Ck,(sz:Int),qf9 _ _,D≠p,?XK G l r,ZU _ _ _,[?am,?ey,?N3],"shrink",λD2 H2 Je s2 h2=>?_,?L hT,?n x.nu,(?F9,s.2),(?WC ta),?y ?O4,?a15 ?fc,belowD ?cN b,?q H12 e5 ?K1,qa4 (Et ..) B8,?n x.st,?n hu,s1.seqT hq,?a9 [?o 2,?lJ,?o 3,?lJ],g3.trans,λa=>?GV,?y ?BC,?q H2 T3 ?hi,[none,?e8],"size",?Vs H1 H1 p,.(by rw[Bz]),?EO s6,h.Ns ?ab mg,?y ?ub,?j ?cw,(t:?Ls),(us':?b1),[none,none,?c8],(?WB ?Gj),dd.2 _ v hv,T.na_Work_table,?TL Rm ?w,R4.same,SameX.refl _ _,[?ar,?cu],?Kx i 0,?nJ / q.1,?q H p1 ?hi,G' D=?Zc ?k8,?q H3 c1 ?PB,?Sy (?XA 0 XC),"bound",#[r1,b1,r2,b2,lx,ly,f1,f2,f3,f4],cR ?a2 ?a2,λD H1 hD s1 Dv=>?_,(?hL).length,"meet",iS most,?cC+1,?a0L hpa,?XH By ?cl,[?ah,?vV],?XB cG,.(by ext i7),(?wM).In,?TG H1 pr [?z bx,?z cy],?q H6 c4 ?Ei,U m M l r,#[?g,?h],?NC λf=>?Qx,?ZY none,(L N:Addr),?y ?um,#[tv,dx,fs,hp,?cK,l6,l7,hrep],hl.getD,qg6 ht1,.ad i ?aT (-kk),?a0T b ?hy,Ap e nL,#[ci,_,vI,_,UH],i<w.length,?u4%?wT,(s:?ei),?UV g13,?YE H5,?Tx (WY ?l),?Sy (?XA 0 wZ),?Yx sB,?gq / ?gh,?a8 Qd hrep,b.1.toNat,"loops",?Xt ?gC ?fj ?a4,?L he1,i<ns.length,T.na_Book_levels,?Tl ds.length,λH2 s2=>?_,x4.tup,xb.2.1,"dict",.(by ext yx),q.trans q2,G c=?ci,?q H11 e4 ?Du,acc.map tI,?Tv H1 C (Co ?ee ?T ?uQ),?u Ab,Rows.nil,?dV hb,.(by ext f9;ext aF),λp hp=>?_,pv 12,layer.take j,"_law_piece","Lines.__init__",(o5 o6 o7 o8 o9:?bT),top 54,"Lines.turn","piece",q.2.2.2,#[?ND,?d1,?zz,?HV,?gs,?pV Je s2 (by rw[hal];show h2),?g],?Zz D m,qa9 hb,liftsB,(?fg).take,e.symm,ms[?l7],?d6 gp,[?ah,?cu],qa9 hp,?TG G' t2 [?gW,?gW],Iy ns ?ij,?u6 s3,(?c3).trans,(o4 o5:?bT),?UR H' P ?RJ,λi=>?v1,"step",?XS Pw,?L hR,?UW ((?j3).1.toNat),Ph xs p,?j ?ej,?q H9 e2 ?Ea,An gs q.1,?UV g4,qa4 (Et _ _ _) B8,(?ft,?z P),?y (Co us ?T (?j ?aX)),?u ?vr,?a1Y Ah ?N6,?L hT2,?ir m0 m1,?j m,λc r n1 n2 e=>?_,R1.same.free,Nu xs ms i,T.na_Book_lifts,sp.trans,λT hT=>?_,"gauges",?z C,[?ar,"i","j"],ds.map toI,bs.map ?cH,Ar.arn17a,?eT[m],[?fv,?em],?j ?rW,Ap hb hD,?ac (?it<2),"twists",s46 _ _ hpa,"spot",(z:Int),cs.map ?S,?cI sp,λH1 s1=>?bq,CU ?aT i ?gh ?gq g a c s,p.2.2.2,#[?rC,Ab,?h,?O],Mf K,pv.same,qa0 hjl,"order",?Zc bu,sp.zip ns,.(by rw[XI];show h3q),?TG H T1 [?qH,?cN,?o ?aT,?o (-kk)],Ic m ?IY,?iy i++[?AP]++?wc (i+2),.dK ?bM,#[P,?g,?Yi hP,?_],"lift",?YE G2,?ap h1,λc q e2=>?_,[?am,?i1],[?Ql,?jd],?a0U G',?Yb H o,Aj (λz=>by rw[z,VG]at e2;cases e2),B / g,?aq ?V dx ?P7,?L hl,?bS s3,?Tb ?gF g2,xb.there.2,?z L,(?gF).turn,An m4 q,Dg xs ?aX,?TL Be ?H,?Sw k ps sp,?b5 h0,?VF ?gx,n%?h9,∃ps,?V5 ls ps,ms.map,?q G2 e1 ?hi,"bases",?oK i 0,X7.of9,"count",λw=>?t3,#[?i,?i,?i,?i,?h],"_law_one",?TZ ?dc,?Lm g3,?n Dv,?a1d ?b0,[?fH,?ba],λl hl=>?_,F.binds hb,?TG G T1 [?qH,?cN,?Fa,?o (-qq)],?z T,?q H4 p ?xM,?YE H3,(fs:?bP),?Zg ?ij,#[t,?g,?i3,?aB,?g,_,?g,_,?g,?i,?_],xb.2.2,?n hp1,q.2.2.1,xs.length<=40,?q H2 b ?hy,?Zc us',lift1 ?uq,Pt xs ?dd,hk1 c q z e2,.(by rw[qb6,qi3];ext d),?TX 4,.dK ?gm,(bu:?b1),?n Sk,?q (?q G1 jI (.own L')) L' ?K5,λe=>?CZ,?a1n ?ld,[?ah,"k",?hA,?tP,?uX],trivial,?Ug et,"share","_law_at",?y ?dK,"Lines.blend",P5 Kg Ah,spot<i,?eD+1,?Xo (by ext gK;show ?mi),Ef LY ?cj,hc.2.1,?a0i ?eo,?n hM,K w.params,"_law_disc",layer.map tI,[?ar,"i","first"],Bh hat,Fh.mpr,Co ?gS ?T ?M7,((?jA).length:Int),(?Xf ?aK ?bR o5),λ_=>none,(?a0D (-a) (-x) (-y)),∀x∈xs,x.length<=4,?q H D ?fz,?MB s3,?cO Value,(as:?jD),w.drop,.(by simpa using q),(o8:?bT),(?Ae).length,Lat.Shares,[?dT,?em,?G2],lx.keep s1,?j ?zg,x3.tup,?V0 ?c3,qm9 _ _,[?vb,?Do,?jl],?a0L e,(?a0D b u v),Co vs ?RK ?T,?cO (Str × V),eZ.trans g3,?a0P ?V fs,?WS ms,λ(k:Nat)=>chainB xs ?ak ms,?ZS (?XC ?X ?aE) Ah,?FS-1,?Vh 1000,?U6 Yt ?ok ?bv,g.turn hD,?Sw 14 ?kA ?us,?z f,#[?g,?a2,?a2,?_],?n e5,?aX+1,λa=>a=nm\/a=r2\/a=b2,[0,2,3,4],?b5 h1,[?oO,?de],.(by simpa using h3),lu++ru,?XS Px,?Uw hp3,#[?i,?i,?h],qs2.mpr,?a0L hp3,ys.getD (t+1) [],?L hpr,(TA.of R hcl).same,[?am,?bu,?hw,?hz],Gr fam w,?aq ?V dx ?Eq,(?hB).length,Aa ?bA ?bl,?bS kT,#[?h,?h],#[tvc,dxc,fsc,hpc,l1c,l2c,l3c,l4c,l5c,l6c,l7c,_],Ap e hD,qd6 hj,Av ?ko ?dS Br (?a1n ?lp),?n y.st,?z c,?aO q3 rG,ds.all ?w5,?UW p.toNat,.(by rw[Xs]<;>rfl),[?am,?dT],[?jf,?fv,?em],?q H5 c3 ?MP,[?ar,"k",?ba],λd hd=>?_,?q H4 c2 ?CS,λh3=>?_,Lat.shrS,k D H1 hD s1 Dv,#[_,qa0 (by let:=?hO;ext d)],?q ?sh p2 ?hi,(z▸R.free),?TG H L0 [?o n,?iF,?gW],[?fW,?bK,?be],#[?g,b,?iB,?W],?a8 g1 LZ,?Vg P,#[?dh,et,_],[?am,?jd],[?ah,?kn],a-?e0*b,#[_,hq],λe he=>?_,us'.length,Nk ?bA ?B Gw,?a9 [?cN,?nv],#[?k,?N,?aW],(?WC a),G D=?iH,na a ha,?Y8 ?an (rS T0),?q G p ?k0,[?ih,?am,?bu],[?i1,?ly],?z la,"levels",Co vs ?T ?M7,?o g,?Y4 H' us ?OK,?Tx ?a3,λq=>(qe5 _).symm,Nk ?H ?X Gw,bs.any id=true,?TG H3 T1 [?qH,?rD,?rR,?o ?JX],?n hp2,[?ba,?kn,?b9],#[?dh,_,?iA],?q H L0 ?lw,sg.trans,"shrink_row",?y ?ku,iS kind,[?ba,?bb,?b9],Cv xs ?ak,qb8 _,qp0 _ ?a2,#[hi,?h],H1 a=?mq,qd8 hij hj,λq=>?AG,[?dT,?am],((spot:Nat):Int),.(by ext zI;ext eN),t ?dA,R2≠N,σ'=(?a0y (rS P)),ms.take i,?q H7 c5 ?Iz,?XD (?a1K ?o7 ?ho F9),"quotient",qe6.mpr,Ek ?qx,.(by let:=hm.len;ext d),Cp ?mW ?r ?hS D7 ?bv,#[tu,b,h1q,h2q,h3q],?TG G3 T1 [.str "minus",?BR],Lat.EuI,cs.length=i,zs=cs.map ?cH,"put_in_order",?a0b G2,.(by have(?X7 AD):=h;have ?iv:=T.x_LEVELS;have#[?kX,_,rC,hW,_,_]:=bk.ob;let ?Fq:=hW.at (k:=k.toNat) ?Os;rw[qa6]at e2;have#[ps,hps,?h]:=?js e2;let hpl:=?NL bk.len;let nl:?r7:=?rz;let el:=rE.len;(let hat:Vo lu k=?j ?gf:=by let:=Bh e1;ext Sf)),.(by apply#[?g,k,4,?h,hk0,AD,?_];apply#[?g,?d7,_,?g,?tL,?bt,?tT,?h,?g,Lv,lu,?i,?T3 sB rC,hat,E,?h,(?YF ?M9),?aW]),.(by(let hc:Cls K C/\Er K C ?dp/\Er K C ?eA:=by rcases hC with rfl | rfl;{show#[?dL,?mF,?pu]};show#[?bG,?MS,?pT])),.(by rw[hfs];(ext bB)),∀(Zb:?TF ?lk ?hk ?EL)(Rp:?T6 ?om ?oU ?Na),a,∀(Eh:?TF ?mk ?s3 ?Jd),a,∀(Dm:?IF),a,.(by apply ?Sv (?a0M ?bU)),.(by let oZ:?Jm=?fc++[q]:=by rw[qd9,hq];rfl),.(by rintro ys τ H1 ⟨as,hal,rfl,R,_⟩;show k D as H1 ?l R),.(by(let VT:?p5:=?kH)),.(by cases z:c=a;{subst z;rw[ha]at e2;cases e2;show Ab};rw[?cR]),∀(K:W.Frag)(mg:?fo)(C_Lines C_Stairs C_Work C_Book:Addr),a,∀(Kq:?T6 ?od ?qO ?AX),a,.(by rwa [?TU (((?dw:Nat):Int)=q.1)]at this),∀(Id:?T6 ?lA ?lW ?On),a,.(by(. intro c q n1 e2;rw[?Wp e2 VG,?h3];show e2)),∀(Hi:?T6 ?ol ?hY ?nk),a,∀(Hj:?T6 ?l2 ?cW ?Qb),a,.(by apply ?h1),.(by let ?kI:=hz;show ?T3 g ?M9),∀{w:World}{K:W.Frag}{mg:?fo},a,.(by rw[?Wp e hZ,?Wp e hZ];show e),.(by show ?Am),.(by rw[qa6,?bc]at hx;rw[qa1,?bc]),∀{st:Stmt}{ps:?aC}{k:Nat}{sp:Sp},a,.(by apply ?Ai),.(by rcases ha with rfl | rfl | rfl),.(by apply Gm λH2 jT=>?_;intro sq),∀(ns:?bP)(lo hi:?nP Int),a,.(by let#[?I,_,e,_]:=hz;show e),.(by rw[hys,qa3,qa3,qc3];ext d),.(nomatch a,hd,la,xs,hl,lf,wu,O),.(nomatch tp,nm,r1,D1,D2,b2),.(nomatch ?h,L,R,M,l,r,hU),.(nomatch L,R,m,M,l,r,hU),.(nomatch s2,hp,ho,hp2,ho2,r2,hT),#[?T,?O,?W,?_],(?ZE ?qA g2).trans,?YC fam=true,?q H p0 ?hI,g1.turn hD,?Tq BE,λj t' e2=>?_,?VN NU.free,λT G4 nT s4 hT=>?_,Lat.beside,.(by ext qo;show l2),?y vs,?RP n w M,?Vp ?Dh q2 tt,?Bz ?qB,s47 _ _ x.nu,#[?g,?i,?pr,?h,?g,?_],?p G3 G4,(o4:?bT),?cX=?iH,?X1 m4,Jh ms fs n i,(o12 o13 o14 o15:?bT),[?ca,"paper"],w.length=1,(3:Int).toNat,z9 K,(?mb).2.1,?VO ?M,Lc K,as++[D2],?ZF Z9,?aq ?M dl [],?a0q ?w,boot_intT,#[f,fd,a,b,F],λp=>Kd xs k p.1 p.2,?X0 ?Oo,(?yA,?z Lv),(?YQ o1),?o w[i],Vu K,(z.same s34).there.1,?X1 m5,(o1 o2 o3 o4 o5 o6 o7:?bT),.(by rw[qb6,hcl];rfl),Dd ?yf,q.map ?Bj,?TD (j≠spot),MW.free hnm,sG.trans,?IT k19,Tx Mv T Im Kq,#[av,?h,sqv],HC ?r,?TL x.row hi,(?M3+?MV)%fam,Lv≠a,λj t z=>?RY,Lat.ChainTo,hW.2 i v ps e1 e2,?UW (Z4[j].toNat),?Ug hRG,(a':Addr),Yf K,fs.getD m 0,k p [] _ hp ?bk Ab ?_,G1 D=?iV,?TZ ?bv,?cX=?j (.dK ?lX),"isinstance",Dd ((?ux).take i),hk1 c r n1 n2 e,#[_,s1,_],?a12 ?Oa,?bF ?Aj ?Aj,λe=>?_,?Sy (?XA 0 WZ),[?dR,?ih],?uc (qb0 hd (qn3 sm3 _)),C9 ?aY,?o (os.getD (t+1) 0),[?oy,?FY],tI ?ud,hts i t e2,?a0i ?e3,?q H L ?wC,λz=>?D4,[?ca,"j"],Yh K,λi σ G2=>Dn λo6=>σ=?Hu/\?yt,(?L ndl).turn,λh6=>?_,[?bb,?b9,?ba],[?bb,"below",?ah],?TA Ev ?H,?cQ xul hi,C9 ?en,?ZF kD,Kd xs k p n,?o Z4[t],?bF ?rO ?rO,#[v,hv,tv],?XS FQ,Kh K,?c5 (aX ps) ?cU,o3' g' a b sh,.(λi zs τ G1 _ hz=>by ext Sg),[?bb,?ba],?TL xb.row hi,show ?ZL ?yk ?DM from ?fi,?a0H [32,16,8,4,2],?d6 eZ,sa.seqT hq2,?RF&&?ac (Ci (?El).length=l),#[c0,?aB,hc0],s2 _ _ Ab,?TG H1 p [?cN,?mG],.(λi c _ _=>by ext S6),?XS kI,?o ?ya,AW ns ?T ?uQ,λG4 fs hfs hG4=>?jn,λH1 s1=>?_,fc∈acc,(?i2).length,?IT kp3,Bc Ju ?B Ah,?Xn #[?I,e,_],zs=ts.map ?cH,?Yx ?d2,?q H2 l ?ej,?a1 z,(qb1 hv).symm,(p o:Addr),(?XM ?cs o3 none),#[fs,?h,?l,hfs],(z▸z1),NH t,?WJ ?_,IB n j,bT K,Ho K,?Yb H T,(?YF hD),Ic m (shF i j g f),x4.right,?X1 l6,?q H4 nm ?fz,["k",?ah,?cu],ms.length,?Tv H1 L (?Hq i ?oy),i<xs.length,?p HL H1,(?hB).take,#[zN,fs',uD,?I,l4',_],?Ti H2 a,.ad j i ?JX,(?eT).length,?iK / b.1,?Z9 (hb.1 c ?l),?TG H T1 [?gW,?o 2,?o 3,?lJ],∀o,H c=?co->G c=?co,?fd g1 tp,?a1 (?a1 ?GD),?XC ?w ?j4,#[sF _ _ R.at,?d1,cs++[F],?gs,?AE,?_,?g],Z7 K,#[o2,?eQ,?kZ,z],G E=?dk,?a12 ?bv,Ff ms ?PP,?q G1 t ?k0,Il JR r4 t4,?Ww ?cw ZL,?q J4 D2 ?sL,?TQ G' i s',show x=?cN from hx,(vs:?b1),TM p q,?XD ?mo,?cQ VT hi,λT2 hT2=>?_,?y ?EK,j<ns.length,?a1D Hj ?bv,λf hf=>?_,"MOST_PIECES",.(by simpa using hi),?Tq ha1,Eu xs e (?it-1),∃b,?V5 ps b,?y (Co ?ee ?c8 ?mx),An gs,qb0 hi ?o2,#[ax,?h,sqx],"Work.straighten",?TD (?cC=?lm),(?fP).trans,#[npL,npR,LR],H1 c=?ci,cK ?lN,?Tx ?_,?TZ (?XD ?Jl),#[LI,wV],k D ys H1 hD s1 Dv r1,?a0u ?B,na a (ma a ha),r.1 i,Lat.addS,?ZF kJ,?a1G ?aE,λt2 ht2=>?_,?XS M5,?og ?gw,.ad i j 1,g2.trans,(?YF vH),((0:Nat):Int),?XS KI,.(λc r n e=>by ext S8),.(by cases z),?dB h ?l,?z R',hc.ch.key q hq,?p H0 H4,FN K,[?tm,?wN],q.map ?S,kG K,?aq C dx ?Kd,?a9 zs,?T5 (?YP g),.own L,λXX=>?_,?Ti G1 a,?TG ?xn N0 [?o p,?gW,?iF],∀c q,c≠a->?Gl,"Stairs",(?qx).length,(?fU-1).toNat,m<fu.length,(ls:?cO (?cO BPart)),?a0A [(?aX,1)],h2.length,λP H2 nP s2 hP=>?_,?nV s67,?TK ?Ow,?o ?Hj,D8 ws ?jo ?zj,?TG G p [?cN,v],?q9 (?cQ VT hj),if j=i then 1 else 0,?a0T C ?t6,?ze w M P,(?Z9 ?_),?Sz n q st,?vq _ _ rdi,sp.map ?S,?Yj H H',?UV q2,[?x,?eh,?af,?aK,o4],[?tm,?jl],#[pr,pb],#[E,eu,?h,hE,rE],?q H b ?hy,λB hB=>?_,"_law_number",y7 K,?y ?xB,?Vq ?w Oc,[?bu,?ih],?VF ?LM,?y ?OX,Lat.blend_row_ne,S7 K,?Yc (?Tu ?ng),gg _ _ hla,w.length=0,?XD ?cx,VI W (s.1 k),?Tw hp2,?p G2 G',hB.2 i v ps hv hps,?Ti H M,?Uy ?eG,?bH ?dp ?ia [],(?d0).trans,?Yx sB3,ChL.nil ..,?XD ?fL,Xz c,.(by rw[efd];rfl),?ai K G us ?OK,"Stairs.put_in",qh4 _ (qh8 h2),I ?aT s,"_law_kind",#[?g,?eX G],[?z ab,va],aZ K,HT.sIx_nat,?T5 #[?g,g2],s5.trans,?q J2 l ?ej,(z▸R2.free),s34.seqT,.(by rw[qa1,hq];rfl),?q G e ?lw,?UR H2 aw ?ge,?YH ?B,?fd s3 tx,λg' a b G' sh z'=>?_,?U5 ?ro,b*?dy / g,?y ?NN,#[r',b',ly,_],(o2 o3:?l5),.type ?o7,#[?g,?F6],(?Ks).length,?Yc ?ng,?a0u ?H,?y ?wq,"Stairs.__init__",?Sy ?fs,?UW i.toNat,[?a4,?an,?af,?fa,rS Rr,o5,o6,o7,o8,o9],[?gC,o1,o2],Int × Int,Heap->Prop,?bH ?bK ?gf fs,Part.nil,a.natAbs<L9,?Xu yH (λ_ _ _ _ _=>rfl),w.length<2,?U5 ?uu,?VG qg4 hd,?TG G p [?cN,?pG],?W3 ys.length,"Book.twists",.(by rw[?h3];show e),["j","i"],(?GW ?o9).sum,dT ?jc ?jc ?hE,.(by rw[qk8]<;>rfl),Fg K,?VF ?h,.type "type",?UV (?d0),λx a=>s.1 x (w+a),?XC ?H ?jr,#[ta,?aD,hq,Xs,_],.(by rw[?p4];show Dv),(?YF hDk),?a10 ?cs,E8 K,(?VC b ?gm),λb=>∃f fd,?jj/\¬?KW,?Or s5,?TD (?g7=?e7),#[p,o,vs,ys,os,_,_,?g,?zU],[?wB,?am,?iW,?Jy,?dR],?q H4 T ?DE,λe1=>?_,hDp.symm,Rk ws fam 4 [w] [],?a0O ?x ?aK,λj hj1 hj2=>?_,(vs.length:Int),(?IQ:Int),[?bb,?b9],(dd.same g1).snoc,(x2.same s3).there.1,VI z (?K3 f k0),?z L',λ_ _=>0,?o (?Mo:Int),sx4.same,"MOST_ROWS",qD K,#[st,lx],"Work.step",?YV ?H ?X,?TD (?ss=?mv),?Ti H D2,λe=>eqD e (?o (ds.length:Int)),?U2 ?pE ?Kc tI,Vc ?B,ys.getD i [],?ZP (?XD ?kL),sp.getD i 0,.(by rw[?c7,X2];simp[h2]),#[E,eu,qs,e1,e2,hE,rE],Jr (v:=?lJ) ?r F7 ?c0,?TA Ev ?X,#[?ay,?tj],Dd (Qz xs ?jp (?jp).length),Rr≠N,x.keep s1,?ZF KJ,Vv K,#[c1,?aB,hc1],?XD ?gT,?Qs j,"_law_letters",(if ?n7<?FT then ?n7 else ?FT).toNat,Aa ?ww Ac,(?NH).length,s1B.trans,"Stairs.meet",[?x,?af,?aK,o1,o2,o3],(?hP-?x5).toNat,λG1 g1=>?_,#[h1,h2,h3],?a0i ?Ix,?a1 ?dF,?TZ ?bE,((?rT).length:Int),#[?aV,?h,?l,?g],(o1 o2 o3:?bT),?YB hhd,λj i=>Pm (?bJ (?Kx j 0).toNat []) ((?qb).getD i 0),?VP ?M,?TS Cy (?a12 ?CP),(?YU (rS av) ?an ?aK),?W8 fs,#[bu5,?g,s5,hB5,?_,xW],?fr s34,QD K,?XD ?c9,λx hx=>?_,?u Je,#[?T,?K],a=q\/N a,(?q7).map,?z Lf,?XS fQ,p.2.2.1.take,AW ns ?c8 ?mx,?Vo ?tl (λu hu=>hWl u (qn4 hu)),z.there.1,.(by let:=r2.length;ext aF),?Tw hp3,?y ?iw,y.map ?S,#[?g,ax,?h,#[_,sqG],?mN],iV hm.n o1.n,c'%letters,?Yb H Rr,H c=?ci->?Cj,qE K,?j ?hK,Aq N6,us++?ku,(du:?b1),?ip ?c0 (?ip ?c0 (?ip ?c0 (?ip ?c0 (.nil)))),Qd.seq hq,.ad i ?dA (-qq),?a0i ?im,?a1C Kt ?bv,"_law_need",?a0i ?dJ,(?UW pl.toNat).length,?WR G E,sx2.same,?pC<=1000,?V2 wu.length,?Ti H R2,sL.seqT hT,?q G1 T1 ?DE,"_law_found",?o ns[j],#[D4,m4,o7,o8,?O,nD4,?eX H4,JR,hm4,?yF],T.na_Book_pieces,Jx lf (c.take i),#[?h,g1],?YV ?B ?X,(VI m f).set i ?yC,y8 K,?Y5 hp2,#[?g,a,xu,?h,?u (?ix hxu),?g,?N,?_],λ_ z=>z.elim,#[?N,?l,?Z9 ?sn],(?Tt ta hT),?c5 (VI n f).length true,?YH ?BY,?c5 us.length true,(?m4 g).2 i v b hv hb,?TD (j≠i),?WM MA,bk.lev _ _ hps,λc q n1 n2 e=>?F0,[iS c,rS a',?cr,o3,o4],?TD (?Pk=((t+2:Nat):Int)),.(by let:=r1.length;ext aF),.(by simp[hal]),?Ys Up ws,[0,0,0,2,3],.(by simpa using e2),#[us,Dk,uk,ps,hu,hat,hDk,rP,hps,eps],#[us,hq],sx1 b _ (F8 e hp ?eY) e,UD c q z ?xS ?hf,Aa ?H ?bE,[?x,?bL,?af,o3],λhS G1 s1=>?bq,?XB ?aY,?o ?AY,[?wB,?am,?Gw],(gp:Int),#[l0,l1,l2],KC K,∀v∈ws,v≠?cm,λR hR=>?_,?UW (p[i].toNat),λf=>An (?oZ f.toNat []) q,(?dK).set,sH.seqT hq,?q H c ?n0,?iy i++?wc ?aZ,[?x,?aj,?aI,o3,o4,o5,o6],(?PQ i).map,[?hs,?jl],?yB++?EK,#[r,b,lx,f1,f2],?TJ ?IL,?a1m Ah (Aa Ah ?jO),(?U3 pp ?ag),?UW f.toNat,#[?g,p1,?aD,?uM,?i,?g,?_],?XC ?B ?X,?UW ?mh,(?t8 j []).map,[?ca,?dE,?be],?TA P8 ?B,AW ns ?c8 ?ky,?Ti H B,?XB ?X,[?bu,?am,?ey],λe1 he1=>?_,V3 Ol T Y9 bF,?VP ?Y,?Uv ha1,MV P w K mg ?m ?M ?dC 1 ?uB,?UM ?bc,λG3 g3=>?bq,?q2 ?da 0 lo,[o,rS d],?Xa (Dn λ(fam:Int)=>Ft (σ'=(?a0F ?cA)) ?bU (fam<100)),(z.same sn).there.1,?YB ha,?lh z l.2 L i,(us.length:Nat),#[c,_,ec,_,hc],?T2 Da ?w ?G4,k01.trans,"Book.count",(os:?bP),?T5 #[?h,g],[?hs,?jf],λk=>if k=i then g else f k,[?eh,?cp,?ct,?fa,o4,o5],.(by simp[putF]),Z8 K,#[p,hp,pv],?UU g1,j-ts.length,#[v,h,w,f,?h,hv,hh,hw,k],bU K,[?uK,?A7],qa9 hq2,?h4 hb,#[?k,?h,?g,?_],?a0T C ?sA,"Book.holes",ok.hd j ?l hj2,[?bb,?tr,"k"],?Ve ?vs h2,fP K,#[?Dh,?bd,?V0 ?ta,?W,?l,?g],Bc Jt ?X ?dJ,?q G' p ?y0,du++vs,r.length,Program × World × PySem.W.Frag × ?fo × Addr × Addr × Addr × Addr,?XC ?B ?w,#[g,Cu,?_,?g],?y ?OW,#[_,_,q,_],(P:Addr),?q (?q H2 zN ?rQ) p (?aq ?Y zN []),NU.trans,σ'=[iS c,rS a1,?cr,?jU,rS d],?gz->?Gl,?q H t ?sI,?z Af8,(?e0).natAbs,(?gc).length,λ_=>rfl,[?uv,?nI,?lB,?mE],hok q ?cj,#[?g,L,_,?i,hL,?bg],?T5 #[?h,λa ha=>by rw[Aj ha,Aj ha],Ab],?n ?_,nb a (mb a ha),.(by simp[hwl]),(?Xd o7 none none),?Ze (Iv (K:=K) qf6 PySem.F.slot_list_pop PySem.F.type_list_pop LN ?bA ?bE),#[?g,?i,?_],"enumerate",#[?g,la,lu,?h,?u hlq,?_],[?x,rS af,?eh,o1,o2],?ew-k0,?j ?dX,#[?bg,?W,?T,?O],.(by rw[←A31];show ?ag),?cI ?nx,Yk K,?a0T B ?sT,#[D,?g,?u #[?n BG,?gb]],R.row i _ ?bc,-?EZ,EJ ?jg fs q.2 m,#[p',jS,h2',h3'],?XS BU,(?WX sz),#[?g,p,zN,fs',?h,uD,?X1 l4',?k,?i,?_],N3 K,eZ _ _ Cu,?a1B i,xs.take i,λc r n1 e2=>?_,[(?c4,?hh),(?hh,?c4)],(?ub).set i (?z D3),Mf ?wM,?ZP ?dc,?jM ?aZ,?XC ?X ?aY,Fx K mg ?M ?Y ?V ?aJ,#[?I,s1,_],fO K,Vc ?H,Ci ?MH=i,KD K,?Uv ?Oh,a=nm\/a=r2'\/a=zO,.(by rw[M1];decide),?y (?wS++?NN),"_law_chosen",((f:Nat):Int),?py/\?s1,?y ((Vt os t).map ?S),.(by let:=?r8;ext aF),Lat.numAt,R.same.free,?W8 [],Aq Gg,Mg K,?XB ?eC,?Uy ?dj,(o7 o8 o9:?bT),?XS bV,Yl K,?dd-1=?ak,Aa ?en ?bl,λpa Ha sa qa=>?_,?Sz n n st,(ws.take i).map,λd q e=>?_,Ci ?Ef=?ij,"starts",#[y',hy',ty],qv1 hi,.mi ?aT,C9 ?B,qd6 jR,Yi K,?Yb H L',FP K,?y ?wS,(?XQ ?aI o7 o8),Zq ns ?c8 ?mx,Bs P w K mg b Ej 14 f fd ?kA ?us,La.binds (ps:=?dC) ?al,kE K,?oZ ?tO [],?a0i ?me,ID K,λi=>?Ht,?bH ?dp ?ia fs,"_law_last",#[_,?b4,hb],W4 K,Bc Ju ?w Ah,?TU (?Ya ((1:Int)) 1),?TG H1 p [?A9],[?x,?cr,?a4,rS o,o1,o2,o3],(la:Addr),(?mb).2.2,i<=w.length,(?Tt ta hT1),(?Op).length,.(by split<;>ext d),.(by ext zH),?bJ (?e7).toNat [],[?hC,?fx,"a","b"],U9 K,#[?h,λi v ps e=>?k4],λtp htp=>?_,(?jV).getD,?a0i ?nf,"Book.told",On K,?XS Ta,?TA Ev ?ms,#[?I,?I,g,_],?VO ?Y,?TG H1 T2 (?a0H ?HX),Lat.downS t i s d,?VF ?a3,?c5 (z-k0) ?cU,?TU (((k.toNat:Nat):Int)=k),#[hW.1,λi v ps e1 e2=>?_],pv 13,?z nm,H=H2,hts j t' e2,Ol.binds (ps:=?hR) ?aM,λG' z=>?_,((d:Nat):Int),?Tx ?LM,?bF ?rO (λ_=>?T5 #[p1,us,?di,s1,hp1,r,?b3]),.(by rw[yF];show h5),λj=>?DZ,.(by ext qp),?jY ?fI ?fI (K8 N6) (Io N6) ?Go ?io XQ YJ WJ YS RQ yN,G1 D=?dk,.(by let:=o1.len;ext d),?Vu ?hC L' ?Op,Yj K,?TF ?qN ?xt ?K7,?n xa',(R2:Addr),?ZG m,Gv K,Vx K,qp0 _ ?l,(?i2).map tI,?Yx sB1,σ'=?IZ,?TA Gn ?aY,VI ?g3 ?h5,?a1n ?g5,?j ?n7,g.natAbs<L9,.(by let:=?ds;ext z8),ls++[?Xz B7 ?ak],[?hs,?wN],?a0L hb,?UG (?Xn #[_,e,_]),(?e6).trans,?j ?ek,?a0c ts t,#[_,_,e],c'%fam,?a0m ?j4 Rh,Nat->Nat,?X1 l4,?ZF kK,G b=?mq,#[?I,?I,?I,g,_],Jk K,q2.trans,?VG Ar.arn34 hzw,Sf K,λG g=>?bq,[?x,?bL,?bh,?aI,?bj,?dH,?dl,?el,?fJ,?gv,?jE,?aK,o12,o13,o14,o15],w.getD i 0,Ey (σ'=?Bg) ?aP ?rl ?yD ?kK ?vt,Qz xs ms ?Bv,?pU<=?oJ,?j ?c4,?o (os.getD t 0),sB _ _ hE,S6 K,nV.trans,?Ly q3,.(by rw[qb6,qi3];show qh2 hfl),?Tb ?BX kp5,?TR ?pi,#[q0,q1,q2],(?qL).length,?N4 i 0=?NY ?f2 0,#[cs,_,_,R,_],?TA P8 ?bx,AZ q.2 m,?Y6 o4 none,?a0B ?aI,x.fr.2.2.2,?y ?Hx,?XS kH,ok _ ?l,T.na_Stairs_rows,?Ys pl 0,x-?e0*u,w.getD ?aZ 0,?XH Wb ?bl,z6 K,?U0 H5 ?V (?bH ?fW ?LC fs4),rows.map tI,[?a4,o1],(?cI s28).trans,?U0 H6 ?V (?bH ?fx ?D6 ?P7),?q H Z ?cw,?XH Hi ?bE,"Stairs.shrink",λF hF=>?_,?V9 rg,Aa ?H ?pp,"_law_edge",G5 c=?co,?aq ?aJ dx (?bH ?fH ?GX ?Ih),?TJ [o,?a4],"Stairs.shrink_row",(?dA:Nat),#[?aV,?h,?T,?O],#[ws,?I,_,_,?g,g,Cu,dd,iW],["i",?sO],?Sy (?Yt ?fs Ah),[?dR,?kB],spot<=i,(?YP ?eu),bS K,?q (?q G3 jI ?DG) L ?K5,S8 K,?n xp.2.1,(?yf).map,Classical.epsilon,?fX ?Ji q[m],"_law_thing",(?I2).getD,Mv.binds (ps:=?jG) ?Et,?YH ?Kh,?Wi hx,#[c,?l,h2,h3],?vX ?l h3,λv hv=>?_,shL i j g b f l,(?eT).map,?Tw R.at,?V7 nDa,?TL Bt ?H,H4 a=?co,?Vu ?dp D1 fs,#[cs,_,ecs,_,hcs],N4 K,[?yC,?o a,?o c],(?HQ).len,?bH ?bK ?jW [],[?Ao,?M8],#[?I,_,_,g,_],(z.symm▸y.mq),λkey=>?bC,(?fc).filter,.(by rw[Jw]),?Y5 e,?a0T C ?hI,?YE B,?Tw hp1,?TL CY ?r,(?UW ((?vW).toNat)).getD,i<ws.length,Ye K,.(by simpa using hk0),#[[],?h,?hv,λf h=>(by cases h)],WX K ?M ?V H0 H' p L R nm n w ?q8 l r [],?mU hol B8,[?bb,"old",?b9],.(by unfold pK fD bookF;decide),?fr ?nE,Gr fam u,λh4=>?_,?L ho,?z pa,?TG H1 p [?o j,v],hm.lp o1 _,.(by show qh9 _ _ hlt),Lv≠p,?XP (Av aL ?dS Br (?T4 ?H (?a1K ?tY ?f1 Fw))) ?aS,∃p,ps[j]?=?nL,(?eD:Int).toNat,?a8 ?d2 hv,"Work.share",λD' G1 nD' g1 hD'=>?_,#[p,jS,h2',_],layer++rows,?q G1 c ?uL,.dK ?m7,?XS KH,["old","new",?yi],?Zb (?T2 Eh ?w (?a12 ?pQ)),hok b ?tv,zs.map λ(n:Nat)=>?S (n:Int),?Tu (qn3 vE _),?TL Bt ?aE,?Ta [o1,o2],?ZF bW,?Yj H3 H',?n8 hb,λD hD=>?T5 #[D,?h,hD,?aV],U4 ws w fam,.(by simpa using h6),DV ?r,Lat.insT,#[pa,pu,?h,hpa,rP],?TG G2 pr [?o j,?o (M i j)],y-?e0*v,(Ap (s2 _ _ hD) R3.free).symm,xs.map tI,wR (n:=8) Mp,Aq Hf,?cX=?pB,?Ti H3 a,?Xa (σ'=[?x,?aj,?aI,?bR,iS 1,o5,none]/\G=H'),σ=[?x,?af,?aK,o1,o2],Wy K H' tp nm r1 D1 D2 b2 z ?ew k0 f l r,(?Wx (λL0 hL0=>?_)),.builtin,?aO sa rL,ns.getD i 0,?Hx++?wq,Co ?gS ?RK ?T,?a1A Mt,?WP G,?XD ?Fr,(?g7).toNat,hmul q ?cj,fN K,λc kvs _ e=>?_,"FACE_COUNTS",(z▸y.mq),hk1 c r n1 e2,(?iy i).map,?TA Ev ?B,λhk0=>?_,Ar.arltk,#[dv,XX,rv],Q1 K,DI xs (?a9 ds),?Vu ?bK E fs,#[o1,o2',o3'],MW.trans,.(by let:=bk.n4;ext bZ),?RF=true,BS K,Bi ys,.(by ext zO),Vw K,j<=n,b.natAbs<L9,Sh K,?XD ?r2,?p8::(?pE ?u9),w.length,S9 K,(d:Addr),?YE H4,?bH ?hC ?FY ?Eq,?Hq i ?ia,g2 _ _ LZ,Dn λo=>τ'=?IL,?y ?yB,?Ti H1 a,?YV ?w ?H,λD2 H2 n2 s2 e2=>kq D2 H2 (sG.free n2) (?AJ s2) e2,?XH Wb ?Ky,?WR H1 D,?uc hi,?z p2,?XH Qe ?As,#[D2,?g,?u #[?n oU,?CR]],Nat.le_of_dvd (za6.mpr ?l) (qz9.mpr sh.dA),?cQ n4 (?cQ Xs hml),dd.keep λc kvs e0 e=>?_,?q H5 p ?Ml,ns.take i,(?gc).take,#[?g,?bg],λG2 g2=>?bq,hk1 _ _ nab.symm h,?YJ 1 15,[none,none],y9 K,k0+i,"Work.put_in_order",(e▸ha),.(by let:=rM.length;ext aF),Int.dvd_of_emod_eq_zero,?Z7 (s2 _ _ (?d2 _ _ e)),?uc hd,?a1n (?a0i ?pl),["j",?b9,"i"],Bc K4 ?H ?B,"Book.__init__",#[us,hq,Xs],M4 K,?c4+2,"LEVELS",Iy ns k,Dn λo1=>τ=[o1,?fj],(?LQ).length,.(nomatch z),#[?O,x],TA.of R1 hl1,(?fg).length,Aa ?aE ?e2,#[hz,?l],a=O3\/a=O4,s5.t hB4,?z t2,?TL Bt ?R7,base.Ns ?ab mg,?YE G3,?Ug e3,#[?ay,?aV,?h,?O],Kp H3 H',?n hT,Reps.one,?u Cu,Sg K,?XC ?bA ?X,?Sy (P5 Kg ?w),Aq F5,[?fv,?em,?jf],?Ud ?aX,.(by ext bZ),λp0 hp0=>?_,(o3:?bT),AW ns lo hi,tI xs[i],A81 P w K mg ?m ?M ?bs ?dC 1 ?uB,#[p1,us,xs,?g,g,hp1,r,?b3],(Ek ?x7).any,λi=>r.1 ?PX,.(by exact deps (Ek _)+1<=8;rw[M1];decide),?XJ d du,"_law_more",xb.there.1,?XS z7,#[a,?aD,hq,r],C9 ?jr,ds.length,["face",?ah,"level"],?a0O ?x none,#[y1,y2],congrArg,FO K,.(by let:=pc.k4;ext d),npn.symm,Lb K,λf=>((?lH:Nat):Int)+f,?vq _ _ rdj,?Tv H1 D [?jw],#[C,?h,?D0,?_],#[h2,h3],"Work.__init__",#[?I,_,s3,_],?TA V2 ?X,λi t e2=>?_,"_law_gauge",?TD (?bW+?ak=?ak),?Ys Up acc,sB7.trans,?u Bn5,BV K,Lat.moveS i ?aT s,rows.take,qm3 _ ?l,lx.nn a ha e,?UA ?eC,?Xn #[_,_,e,_],(jC ws f:Int),a=nm\/?Pv,UL _ _ hLr hLb h,?a0T l1 ?ej,?ZF fS,nN _ z1,(?Xd o7 o8 none),ys=(?c5 i true).map ?hm,?VF ?r,?V2 xu.length,Be (K:=K) ?X,?W2 (?gz->?Cj->?tb),#[_,us,z,hq,r],∀x∈ms,0<=x/\x<?g6/\?Ym x.toNat,?Xy G,["j",?bK],λE2 ZL=>?_,[?iW,?fv],?Un ?g6,?a0q ?X,∀a,?gn->?qX,?Ua ((?eD).toNat),[?yC,?o a,?o b],?j ?Pk,?o ?n7,?z e1,?ZP ?pQ,qg5.mp hq,Lat.Straight,?Xm ?aI ?bh o7,Kw xs ys os,?q G1 e ?yP,?TL Bt ?X,Yg K,?j ?eS,?TZ ?wK,"Book.lift",.(by simp at z),(z▸Je),?XC ?e3 ?B,(?Tn a ?xw),#[?aH,?aW],["part"],?pV hF sF ?_,[?bb,?b9,?ah,"k"],#[?q1,?qy,?ad,Ab,?Jh,_,?g],?a0U ?H5,?TL qV Mp,?iy ?pc,?fM hD,VI w (M i),G D=?iV,?UV (?MC),λc r e=>?_,#[?kX,_],[?x,?af,?cD,o3,o4],?XD ?vN,.(by let#[x,d,?h,hx,k]:=h;apply(?ZV (?a1g (?a0o "int" T.n_int ?A3) (wM (?a0o ?mg T.n_bool DW))));apply(?VL ?dF hx);apply ?Ai;{apply(?VL ?GD hx);(let e2:M3 d=!QX ?mg d:=by unfold M3;rw[e];rfl);rw[e2]at k;show k};(let e2:M3 d=false:=by unfold M3;simp[e]);rw[e2]at k;show k),.(by intro sq;let vG:=?m3;apply ?Sv (Kz λ ?iz ?eb ?h7=>?M4)),.(by(let#[f1,f2]:=fin i D H1 hi hD s1 (by rw[Dv];congr 2;show U2 λc _=>by simp[ZS]) λr hr=>by funext c;simp[ZS,hr]);show#[?k,L,_,_,i,?K,f1,Mo (by rw[qa3,x.1];show hi),#[?g,f2]]),∀(Da:?LS)(Oe:?TF ?pY ?wn ?Ig)(Kr:?T6 ?qM ?v9 ?Ib),a,.(by let hfl:?sp<=4:=by rcases Gz (l:=xs) (i:=?dw) (d:=[]) with z | z;{show h4 _ z};rw[z];show ?ay),.(by(. rw[hf4,hf3,hf2];(ext bB))),.(by apply ?Sv (?a0V ?aP)),.(by apply ?HJ;apply ?yE;show#[?g,k _ _ ?hj hu]),.(by apply ?P;apply#[?g,ta,_,?i,hT1,?bg];apply ?Ko),.(by apply ?Tc a ?bM ha;apply#[?g,a,?iB,Ab,?aW];let#[VG,nDa]:=dH hD),.(by let hj0:?Ie=0:=by cases hz:?Ie with| zero=>rfl| succ m=>rw[hz]at e2;simp at e2),.(by apply ?Sv (Dn λo6=>σ'=?Hu/\?fk)),.(by apply ?Sv (?Zu ?bU)),∀(Cy:Kb P w K mg ?m ?Y ?yO ?wP 4 ?Cw),a,.(by cases z:i=c;{subst z;simp[Lat.one]};let:¬c=i:=λe=>z ?ty;simp[Lat.one,z,this]),.(by have ?fQ:=x.ob;have ?gu:=x.rw;have ?mC:=x.bk),.(by cases z:c=b;{subst z;rw[Ab]at e;cases e;show BE};rw[?cR]at e;show UD c r z n e),.(by let hpl:=?NL B8;let nl:?r7:=?rz),.(by cases ez;(let xul:?R6:=by let:=rx.length;ext aF)),∀(No:?IH),a,∀(Dz:?TN ?pa ?iZ ?LW),a,.(by let hxv:x=?H7:=by rw[qa6,qa0 hjn]at hx;ext eN),.(by let rul:ru.length=rows.length:=by let:=rR.length;ext aF),∀(Jd:?T6 ?qd ?ue ?L0),a,.(by let hi:i<n:=by ext cb;rw[qa3,?fY]at this;show this),.(by let hl:?p5:=?kH),∀(D6:?T6 ?pf [?ez] ?My),a,.(by let hjn:?CT:=?gE),.(by let hi:i<sp.length:=?gE),∀(Vh:?T6 ?nz ?yR ?Ku),a,∀(Fj:?TF ?p1 ?ne ?Lx),a,.(by cases z:c=b;{subst z;rw[hb]at e;cases e;show Ab};rw[?cR]),.(by let hyl:?mn:=by let:=r1.length;simp at this;ext d),.(by(. show#[?ay,λD hD=>?T5 #[D,?h,?eR,hD,Ab]])),∀(Hg:?UE ?ru ?A0),a,∀(Np:?TN ?mR ?ml ?Kg),a,.(by apply vQ λo6 G2 g2=>?_;intro sq;show kq G2 ?eu),.(by have ?mH:=x.ob),.(by rw[As,?dI]),∀(Mz:?Vd ?pD ?nQ ?MA),a,.(by let vl:?W3 j:=?ti),.(by let vl:?W3 n:=?ti),.(by let#[us,hhd,Xs,Nz]:=id hH;let#[_,xu,ez,hxu,rx]:=?ff),∀(Vg:?Q P w K mg ?m ?pw ?gy 7 ?CC),a,.(by have ?t7:=x.ob),.(by let cb:∀z:Int,X7 z g:=λz=>?vX ?l lg),.(by(. show ?OB)),.(by let nN:?RH:=?VY x.nn),.(by(. show λk k1 k2=>?Dv k1 k2 _ _ _ _)),.(by rwa [?L9]at this),.(by let ?MJ:=hz;show ?dm ?LT),.(by let nDE:D≠E:=λz=>by rw[z,BF]at nD;cases nD),.(by apply#[?k,?aH,?Hn]),.(by rcases ho with⟨_,q⟩|⟨_,q⟩<;>cases q),.(by show ?ch ?d5),∀(Wb:?TF ?nA ?q5 ?Kb),a,∀{X:Cx}{J:XJ}{j k:Nat}{C:Addr}{ps:?aC},a,∀{e o:Expr}{es:?cO Expr}{ta:TE}{t:TA},a,.(nomatch pC,OW,?h,hpa,?X1 l6a,H1,p,L,R,nm),.(nomatch ?h,?UU sZ,Ab,(?YJ 1 100),h4,?Bk,λE H1 nE s1 hE=>?T5 #[E,?h,sZ.free nE,sZ.trans s1,hE]),.(nomatch ?b6,?jx,l4a,R,?M,dr,fr),.(nomatch p,?eH,?Y,r,b,_,n,W,_,_),.(nomatch ?aT,st,s,?h,y,hI,hs,hb),.(nomatch q,NB,ys,?h,(?bS sC).trans s',hq',r'),.(nomatch p,dxc,fsc,?h,hpc,?X1 l6c),@(?s (λσ' H'=>?a) ?t ?_),@(Bs P w K mg ?m Ej ?a f fd ?b ?c),@(Eb (K:=K) (n:=2) ?r (Bk (Al (i:=?a) ?b) (Bk ?c Ea))),@(λ_ _ _ _=>?a),@(Es K ?a ?b ?c f fd),@(Bm X G ?a (λF=>?b) ?c),@(Am (i:=?a) ?b ?c),@(Ai ?a hr (Aa ?b ?c)),@(?n (?a _ _ ?b)),@(Aa ?a (Aa ?b Ac)),@(?v _ _ ?a),@(?Q P w K mg ?m ?a ?b 1 ?c),@(?E ?a ?b (Aq ?c)),@(?j (.dK (cK ?a))),@(λi σ H2=>Sx λ ?kf ?j1 ?hp ?q6=>Bv (σ=[?q3,?cA,?fZ,?j (?o ?a),?b,?au,o]) ?eI ?qW ?qc),@(Ba ?a ?b Ah ?J),@(?j (?o ?a)),@(Bw (Iv (K:=K) qf6 qi9 qi8 Gi ?a ?b)),@(show ?a by ext d),@(?D ?a ?C),@(?Q P w K mg ?m ?a ?b 2 ?c),@(?q ?a ?b (?a9 ?c)),@(E7 (λσ' H'=>σ'=?a/\?b) ?_ ?dD),@(?ae K ?ab ?a),@(Dn λo=>τ=?a),@(λi σ G _ hz=>?a),@(?a (K:=K) ?b),@((?a ?b).trans ?c),@(?Q P w K mg ?m ?a ?b 3 ?c),@(σ'=?a/\∃(d:Nat) (f:?hW) (l r:?ei),?b),@(Dq (Dl (Av ?a ?dS Br (Aa ?b ?c)))),@(SX ?Y H0 ?a p q M n W t ?b ?c),@(Al (i:=3) ?a),@(Af (Bw (C6 ?w ?bG ?a hr ?b))),@(WX K ?M ?V H0 ?a p L R nm n w ?q8 l r ?b),@(show ?a by ext d),@(#[?g,p,dx,?g,?a _ _ hp,?h,?g,p,?aX,?df,?b,?N,?c]),@(?u #[?aB,?n ?a]),@(by exact ?bW<?a;decide),@(?a _ _ (?b _ _ ?c)),@(Bx ?r ?b7 ?a),@(Ji λo1 o2=>τ=?a),@((?a).trans ?b),@(?a1 #[?a,?b,?c,?cM]),@(?a K ?b=true),@(Al (i:=4) ?a),@(by (let:¬?a:=?b);ext d),@(?ao K ?a ?b=?aa),@(good W0.1 W0.2.1 ?nD ?ov ?pM ?mf ?qF ?a),@(?a ?b=none),@(Cz K ?a ?b),@(by rw[qa6,qa0 (?c6 hol (?cQ hyl ?a)),qa1,qa0 (?c6 hol (?cQ hyl ?b))];rfl),@(us.length=?a),@(show(Ek ?a).length=?b from ?fi),@(#[?g,?a,?h,?b,?aW]),@(qm2 X G ?a),@(by funext b;cases hb:b=?a;{subst hb;rw[Ab,Ab]};rw[?hb,?hb,?hb]),@(R6 (?a1 #[o,?a]) hat),@(?j (?j ?a)),@(Cs (K:=K) (a:=a) (xs:=us) ?a ?b ?c ?_ ?_),@(#[?g,?a,_,?i,?b,?K,?g,?_]),@(qa4 ?a ?a2),@(?q ?a ?b (?y ?c)),@(s2 _ _ ?a),@(G7 ?a ?_),@(Al (i:=5) ?a),@(?ai K ?a ?b ((?c).map tI)),@(?q ?a p (?aq ?b dx ?c)),@((?a).length<=?b),@((?a ?b).map ?c),@(#[?a,?g,?b,?aB,?g,?i,?_]),@(λH=>?a1 #[?I,?a,?K,?h,(by exact(?b:Nat)<=sizeLine;decide),?c]),@(by rw[qa6,?a];rfl),@(?a (K:=K) ?r ?b ?c),@(#[?g,?eO,?g,hpa,?fC,l5a,?g,nm,_,?i,?s7,Bh (C7 ?a),?_]),@(Rep K ?a ?eH (ZN ?b)),@(Hh ?a (λF=>?b) ?c),@(Af (F1 (K:=K) ?w ?a)),@(H9 ?a=?j (?y (VI n (?lt s.2 i j ?cZ ?qK (-c) a ?b)))),@(za1 X G ?a),@(Kz λ ?bD ?vn ?iJ=>Ey (?a=?GM) ?vA ?si ?wy ?pR (?b)),@(Kb P w K mg ?m ?aJ ?a ?cT 4 ?b),@(Bh (C7 ?a)),@(λi zs τ H1 _ hz=>?a),@(λi j c hi hj hc=>DX (?a i j hi hj) (?b j c hj hc)),@(by let:=qc7 m ?a;rw[qh6,qh3]at this;show this),@(Cp ?mW ?r ?hS D7 ?a),@(λfr hc o e=>fr _ _ (?a _ hc).1 (?b _ hc).2.1 ?hf),@(mkL (N:=?qC) hl1 R1 hl2 R2 ?a sN hfs hG4 ?HH),@(by rw[qa6,?a]at hx;ext eN),@(H9 ?a=?j (?y (VI W (?lt s.1 i j a c ?er ?cZ ?b)))),@(Fr ?a ?b ?_ ?_),@(Ce (lo:=0) (n:=4) ?a ?b ?_ ?_),@(#[_,qa0 (?c6 hwl ?a)]),@(SqT K ?a ?b ?c),@(Qo (K:=K) (a:=E) (xs:=eu) ?a ?bw ?rj ?_ ?_),@(?bF ?fS (λh1=>?a)),@(?a8 ?a hL),@(?a _ _ Cu),@(?bJ ?a []),@(?Q P w K mg ?m ?a ?b 4 ?c),@((?a).map ?S),@(#[?g,?ax,?g,hp,?cd,?g,r,_,?i,?dr,?a,?g,?b,_,?i,?c,?o5,?_]),@(∀w:?bP,w.length=?a->?xL),@(λj σ H2 _ hz=>by let ?a:=hz;show ?h4 hS),@(λi zs τ G1=>Dn λcs=>Bv ?yr ?yq ?a ?Pn),@(λZ hZ=>#[?g,Ab,[(?u ?a,?iF)],?h,?PU,?_]),@(Ax ?as (Ax ?aL ?w (Ax ?as ?B ?a ?R) ?R) ?b ?R),@(λk hk=>#[mk ?a bo.2 hi hk,mk ?b bo.2 hj hk]),@(g1 _ _ ?a),@(?kp K ?a ?lG=true),@(σ=[?cr,?au,?cA,?ct,rS R,o5,o6,o7,o8,?a]),@(λi ws τ G _ hz=>by let ?kI:=hz;show ?a ?b),@(qf9 (λp:BPart=>?ac ?a) ?b),@(Kb P w K mg ?m ?V ?a ?cL ?b ?c),@(Ce (lo:=0) (n:=xu.length) ?a ?EJ ?_ ?_),@(?ac (0<=i)&&?ac (i<?a)),@(#[?f7,m,i,?a,l,r,f,?h,z,?N,mn,mw,o1,?DH,?EX]),@(∀(j:Nat) t,?Lo->∃p:?Eo,?a[j]?=?nL/\?b/\?px),@(λk hk=>#[mk ?a ?hF hi hk,mk ?b ?hF hj hk]),@(λc hc=>L6 ?a ?b ?a2),@(by unfold Ay;rw[?nh,?kt,?b5 h5,?a h7]),@(Lq (Js ?a ?b ?c ?J)),@(Cs (K:=K) (a:=r) (xs:=?dK) ?a ?b ?BE ?_ ?_),@(sp _ _ ?a),@(s4 _ _ ?a),@(by (let:?a<?b:=?c);ext d),@(Al (i:=7) ?a),@(?ao K ?a ?kz=?oF),@((?a).turn hD),@(#[?g,?a,?g,?b,?g,?_]),@(?a=xs.length),@(?a (by simp only[qb6,qd5,qj9];ext d)),@(Ri _ [] (by rw[qt2];show Le.mpr ?a)),@(?a[i]?=?j ?b),@(∀{G:Hp}{c:Addr},?rB->c∈?a->?C7),@(by rw[Aj ?a];show Dv),@(Bq (Dq (Dl (Ai ?a hr ?cl))) ?he Bg),@(?u #[_,?a]),@(?j (?z ?a)),@(?j (?fm o ?a)),@(#[?g,?a,o,?b,?h,?W]),@(#[?g,?a,_,?i,?b,?h,?i,?g,?_]),@(#[?k,?k,?cc,?g,?a,?i9,?g,r,_,?i,?n ?b,Bh ?c,?_]),@(eY ?a ?_),@(by show ?a ?b),@(Qn (K:=K) (a:=ax) (xs:=?a) ?b ?ur ?c ?_ ?_),@(H2 ?a=?j (?y ?b)),@(Ce (lo:=0) (n:=uk.length) ?a ?b ?_ ?_),@(?p H (?q ?a ?b ?c)),@(#[?g,_,_,d,?h,?a,?b,?g,?_]),@(?a (by simp only[qd5,qj9];ext d)),@(λa e=>?a e),@(Kb P w K mg ?m ?a ?hZ ?jG 2 ?xC),@(Kb P w K mg ?m ?a ?de ?hR 3 ?rf),@((if ?md > 1 then ?md else 1)-?a),@(#[p',?a,by rw[Aj h3'];show ?b _ _ h2',h3']),@(#[?k,?k,?g,?cc,?g,?a,?ka,?g,b,_,?i,?b,Bh ?c,?_]),@(λa ha=>?a),@(SX ?Y H0 G' p q M n W t cnt ?a),@(Al (i:=6) ?a),@(?Pz->Bs ?a w ?b mg ?m Ej 14 fa fd ?kA ?c),@((?a).natAbs<L9),@(λa e z=>?a a z e),@(show(?a).all id=true by simp),@(k _ ?aT st s hs hI hb hex ?a),@(jX _ _ ?a (s5 _ _ ?b)),@(Ba ?j2 ?a ?b ?h),@(?Q P w K mg ?m ?a ?b 5 ?c),@(?L (o:=.dK (cK ?a)) ?b),@(vs d i ?a f l r hv ?l ?l ?l),@(good ?a w K mg ?M ?Y ?V ?aJ),@(fs.length<=?a),@(Vp _ _ ?a),@(Sr K ?aJ ?a ?b ?c),@(wu[?a]?=?au),@(fin ?a (by unfold AZ;rw[?b h2])),@(by unfold Ay;rw[?a,?b5 h3]),@(by rw[qa1,qa0 ?a];show ?pS),@(Qq (ws:=ws) (fam:=fam) ?a [] ?b),@(Il ?a (?aO ?b rG) ?c),@(Bw (P6 ?a ?b6 ?b hr)),@(?p G2 (?q (?q G2 dl ?a) ?b ?A1)),@(?p ?a (?q ?b ?c ?nC)),@(?mp (i:=?a) ?b ?l ?l),@(?bH ?a (?cH ?b) ?c),@(?aO ?a r),@((?a ?b).turn ?c),@(tG _ _ (hk _ _ ?a (sO _ _ ?b))),@(Kz λo3 o4 o5=>σ=?n4/\?a),@(?pq K ?a ?b=true),@(#[?k,tI fc,?td,?a,?u ?b,?Qn,?g,?_]),@(?a (by rw[hzs,qc3];ext d)),@(∀c q,?nn->?a),@(vs.length=?a),@(by (let:?a=?b:=?c);ext d),@(Af (Az (Cw (Aa ?a ?bE)))),@(Aa (Ax ?aL ?a (Bc Dy ?b ?c) ?R) Ac),@(?dO H H1 D as ?a ?b),@(?aq ?M jI ?a),@(#[?g,?a,?g,?b ?c,?h,?g,?_]),@(#[?c2,ms,?aQ,hb,hm,h4,?a,kq]),@(#[?I,w++[?a],?h,?kF,?es,?JH]),@(#[?a,?aD,hq,Xs,Nz]),@(Cd.kd (λc o e ho=>?a) rE),@(BindsTo s fd #[[?a],[]] [?b]),@(Av ?AN T.n_max HE (Aa ?a ?b)),@((?aO ?l1 ?a).append ?xX),@(#[?a,dl,?M,?z ?b,?z ?c,?h,?dF,Ab,?BT]),@(λw e=>?a1 (?a ?b)),@(λq hq=>?a),@(λa o e=>sx _ _ ?a ?NT),@(ys.length=?a),@(s15 _ _ ?a),@(qc1 ?ig ?a),@(mg ?a=?j (?o ?b t)),@(LT K ?a ?cm xs),@(Er K ?V ?a),@(?q ?a ?b ?cw),@(?fX ?a q.1=?qz),@(?cF ?a (i:=?aX) ?l (?q9 ?b)),@(#[hE1,?bd,?vK ?a,?W,?l,?g]),@(#[_,_,#[?a,Ro,Oa],?LF,?IE]),@(#[_,_,#[?a,O9,Mn],?N5,?AL]),@(#[Dv,?a,?jN,?W,?g]),@(#[?k,?g,?a,?g,?b,?c]),@(?a _ _ pr pb ?b),@(mu.length=(?a).length),@(by rw[qa6,qa0 ?a];rfl),@(Ex ?ga ?a),@(Af (Az (Ai D6 hr ?a))),@((?GZ ?a).foldl ?vw lg),@(#[?g,?ax,?g,?a,?cd,r,?h,#[_,?b],?c]),@(?a a≠none),@(∀a o,?a a=?co->?NG),@(λx hx=>(pbn x ?a).f),@(λa ha z=>?a),@(show ?a=min ?b ?da from ?EM _ _ ?c),@(i'<?a->Zw xs p ?b i'=true),@(_=?j (HO.dK (cK ?a))),@(Ar.arn9a (qc1 hs ?a)),@(Ap ((?gt) _ _ ?a) nE),@(Aj (Ap ?a ?b)),@(?y (Ek (?c5 ?xy ?a))),@(?tw ?dZ (ls.take ?a)),@(?o ((aX ?a:Nat):Int)),@(?n (kb ?a mdj _ ?Qd)),@(?n (kb ?a mdi _ ?De)),@(?hH (m:=?a) e2 d1 l1),@(?L (o:=?a) ?b),@(#[?g,?aH,?a]),@(#[?c2,k,ms,?aQ,hb,?a,kq]),@(#[?aV,?a,?O]),@(?a=false),@(?a _ ?a3),@(?a P w K mg ?m ?b ps k sp),@(sz=?a/\need=?b),@(?u #[?aB,SqL.of ?a]),@(?h8 ?a=?j ?b),@((?a).free ?b),@(#[p,k,?df,sB,hk0,?a,kq]),@(#[fs++[?a],?gs,?MD,?CV]),@(#[?g,?a,?aD,?u (?b ?c),?g,?N,?aW]),@(Al (i:=?a) ?b),@(Af (Az ?a)),@(Ax ?aL ?a ?b ?R),@(Aa ?a Ac),@(Bq (?bN (Nh ?a ?b)) ?aS Bg),@([?x,?bL,?bh,?aI,?bj,?dH,?a,?b,?c,none,none,none,none,none,none,none]),@([?x,?bL,?bh,?aI,?bj,?dH,?dl,?el,?fJ,?a,?b,?c,none,none,none,none]),@(Ai ?a hr ?b),@(by let ?a:=hz;show ?T3 ?b ?c),@(H' ?a=?j (?y ?b)),@(WX K ?M ?V H0 ?a p L R nm n w ?T ?b ?c ?k3),@(σ'=[?a4,?an,?af,?a,?b,none,none,none,none,none]),@([?x,?cV,?a,?b,?c,none,none,none,none,none,none,none]),@(?j (.dK (cK ?a))),@(Af (?T1 ?a ?b ?c)),@(Bq (Dq (Dl ?a)) ?b Bg),@([?x,?cV,?cs,o3,?a4,?aj,?a,?b,?c,none,none,none]),@(λi σ G _ hz=>by let ?a:=hz;show ?T3 ?b ?c),@(?a K ?M ?Y ?V),@(σ'=[?a4,?an,?af,?fa,rS ?a,?jJ,?m6,?pI,?ps,?TB ?b]),@(?TI ?a=?aa),@(λi ys τ H1=>Dn λas=>Bv ?oT ?oB ?a (?TJ ?b)),@(by let ?a:=hz;show ?b ?c),@(σ'=[?x,?cp,?aj,?aI,?an,?a,?b,none,none,none]),@(λi ys τ H1=>?a),@(?bN (Xj ?a (Rg (?TA ?b ?c)))),@(λσ' H'=>?a),@(λi σ G=>?a),@(σ'=[?x,?bL,?bh,?aI,?bj,?dH,?dl,?el,?fJ,?gv,?jE,?aK,?bR,?j ?nv,rS fl,?a]),@([?x,?cp,?aj,?aI,?an,?cD,?aK,?a,?b,?c]),@(LX ?a ?M L O1 O2 ?T n n ?eE ?b),@([?x,?aj,?aI,?a,?b,?c,none]),@((?gH ?a).trans ?cY),@(λi ys τ G=>Bv ?c1 ?jX ?a ?b),@(Ld ?bQ ?a ?b Ah ?eJ),@(σ'=[?x,?cp,?aj,?aI,?j (?o ?jQ),?cD,?aK,rS t,o8,?j (?o ?iK)]/\?a),@(σ'=[?x,?aK,?a,?b,none,none,none,none]),@(Ce (lo:=0) (n:=?a) (?T9 ?b ?c) ?l9 ?_ ?_),@(σ'=[?x,?aK,?a,?bj,?an,?p0,?b,?c]),@(by let ?a:=hz;show e),@(λi ys τ H1 _ hz=>?a),@(by rw[qa6,qa0 ?a]at hy;rw[qa1,qa0 ?b];simpa using hy.symm),@(?TI ?a=?Tr ?b),@(Rep K ?a (?z ?b) ?c),@(σ=[?cr,?au,?cA,?ct,rS R1,?TB (0+i),rS B,?a,o8,o9]),@(σ'=[?a,?b,?c,none,none]),@(λ_ _ _ _ _ _=>?a ?b),@(σ'=[?x,?cV,?cs,o3,?a4,?aj,?aI,o7,o8,?vo,rS M,?a]),@(WX K ?M ?V H1 H' p L R nm n w ?T l r (Ic ?a f)),@(?u (?T3 ?a ?b)),@(?p H1 ?a),@(?a xs ?b z k0 L G f l r),@(λi zs τ H1=>?a),@(λi zs τ G1=>Bv ?o0 ?Aa (zs=(?a:?b1).take i) ?b),@(?p H2 (?TG H2 ?a ?b)),@(?ao K ?a ?b=?Tr ?c),@(?ai K ?a ?b ?c),@(s3 _ _ ?a),@(σ'=[?gC,?fj,?ct,?a4,?a,?b]),@(by let ?a:=hz;show ?b ?c),@(σ'=[?a4,?x,?bR,?cD,?a,?b]),@(?j (?aq ?a dx ?b)),@(σ'=[?x,?bL,rS ?a,?b]),@(s1 _ _ ?a),@(?ac (?S ?a=?cU)),@(?a (K:=K)),@(?p ?a H'),@(#[_,?n ?a]),@(#[?g,?ax,?g,?i5,?g,q,_,?i,?a,?UF ?b,?_]),@(Bc Dy ?a Ah),@(hk _ _ ?a (?TY s3 ?b ?c)),@(by exact ?a<=?b;decide),@(below ws fam [] ?a),@(LX H' ?M R r2 b2 ?T w w ?a ?jh),@(?p G' (?Tv G' ?a ?b)),@(?ch (?dP ?a)),@((SqL K H ?a us\/?UR H ?b us)/\?tU),@(#[_,_,?g,?a]),@([?x,?af,?aK,?a,o2,o3,o4,o5,o6,o7]),@(Ni (?T2 Kq ?a (Aa ?jR (Aa ?b ?iG))) ?c),@(?u (?a _ _ ?b)),@(#[λσ' G'=>?a,?ad]),@([?x,iS m,?iD,?hJ,?a,?b,?c,o7]),@(N9 ?bQ ?a ?b ?R),@(LX H' ?M ?a r1' b1' ?T n n ?b ?x6),@(Af (Bw (C6 ?w ?b6 Mq hr ?a))),@(?p G1 (?Tv G1 F (Co ?Ld ?a ?b))),@(#[D,?i,?a,?gQ]),@(?a=((?b:Nat):Int)),@(?a ?b=none),@(qa4 ?fE ?a),@(mg ?a=?j ?cm/\∀H,?UR H a ?b),@(by let:=Bh ?a;rwa [?TU (?b=?c)]at this),@([?x,?cr,rS p0,?a,none,none,none]),@([?a4,?gY,?a,o3,none]),@(SX ?Y H ?a p q ?sK n ?g3 t ?b s),@(?u (?n ?a)),@(?bi p ?a ?b),@(λLx=>Lx _ _ ?a),@(LX ?a ?M R O3 O4 ?T w w ?eE ?b),@(Ci (?bJ ?a []).length=?ij),@(?p H ?a),@(?mO/\∃L R m M l r,?t1/\?a),@(∀a,?Ti ?a a->?b),@(∀a,?a->?qY),@(y3 r b ?a H'),@(by let:=?a ?b;ext d),@(Ml (Ba Gn ?a ?b ?J)),@(Fy H ?a ws ?b),@(F1 (K:=K) ?w (?T2 ?a ?b ?bE)),@(Bh (j:=t) ?a),@(?a _ _ hp),@(?p8::(?U2 ?fw ?a ?u9)),@(σ'=[?a4,?jU,?a,?b]),@(Vo ?a ?b=?TB ?c),@((?Tb ?a ?b).trans ?c),@((?a) _ _ ?b),@(#[p1,?aD,?T3 ?a hp1,?Vv ?b]),@(#[D1,fs1,?g,?gA,Dv,hf1,Bn1,?a]),@(#[?a,_,?aT,?g,?h,?W,?bz ?b,?JE]),@(#[?a,?aD,?n ?b,?Vv ?c]),@(st _ _ ?a),@(?a=[rS x,rS tb,iS w,rS T,?b,?c]),@(λc hc=>?a),@(by rw[Aj ?a];show Cu),@(by rw[Aj ?a];show Ab),@(SX ?Y H0 H' p q M n W ?a ?b ?c),@(?yp n p a x y ?a u v),@((?a).trans ?b),@(?a K ?aJ),@(Xr ?lH (ys.take ?a)),@(SqT K H' ?a ?b),@(C6 ?B ?bt ?a hr ?bv),@(?u (?TY s4 tG ?a)),@(?TI ?a=?j ?b),@((?a).length=?b),@((?a) ?b=?j ?c),@(?a ?b (?Wj ((?c).2.2 ?NP))),@(λ_ _ _ _=>(?Sx 0 ?a (?XA 1 ?b))),@(Av ?bf ?bO qf7 ?a),@(#[_,(Af (Az ?a)),?_]),@(#[_,(Ad ?a ?b),?_]),@(Ax ?as ?a ?b ?R),@(Aa ?a (Aa ?b ?c)),@(Af (Bq ?a ?b Bg)),@(#[_,(?XB ?a),?_]),@(Cp ?iN ?r ?ho F9 (Aa ?a Ac)),@(B6 (N':=?qf) (cap:=?ev) ?r ?a7 ?a ?tK ?aN (?Sy ?b)),@(σ'=[?a4,?cg,iS j,iS A,iS B,?ct,iS a,iS c,?TB ?er,?TB ?cZ,rS ci,?a]),@(λσ' H'=>Dn λ ?LU=>Di (?XT R2 ?a) ?yd ?H3 ?iI (H' R2=?T8 ?b)),@(E7 (?Xa (σ'=?a/\?bU)) ?_ ?dD),@(Dq (Dl ?a)),@(?j (?y ?a)),@(Eb (K:=K) (n:=4) ?r (Bk ?a ?b)),@(Bw (Iv (K:=K) qf6 qx0 qw9 i8 ?bA (?T4 ?H ?a))),@(Kz λ ?iz ?eb ?h7=>Ey ?FE ?aP ?rl ?yD ?kK ?a),@(?j (?o ?a)),@(Kz λ ?zn ?sV ?tG=>Ft ?MM (?Yh ?a ?b) (J ?c t s)),@(Bq ?a (?XO 3 ?b ?c) Bg),@(Dn λ ?bD=>Bv ?a ?dY ?aP ?b),@(F1 (K:=K) ?w (P7 No hr ?r ?pt (?T4 ?a ?b))),@(Ai Qf hr (Aa ?w (?T4 ?a (?XC ?b ?tk)))),@(Ji λo1 o2=>?a),@(H' ?a=?XN ?b),@(Am (i:=4) ?a ?b),@(?cX=?XN ?a),@(Bc ?cS (C5 ?cv ?a Fm ?An) (E9 (?T4 ?b ?c))),@(X1 (d:=a) (o:=o) (kvs:=?bM) ?a ?b ?c ?_ ?_),@(Vi (d:=b) (o:=o) (kvs:=?a) ?b ?zV ?c ?_ ?_),@(Bv ?dU ?dG ?a ?b),@(σ'=(?Xf none none none)/\?a),@(#[?g,D,uk,?h,?Xx ?a hD,?g,?N,?_]),@(σ'=(?XG ?gv ?a ?b)),@(insAt ?aT (?z ?a) ((?b).eraseIdx i)),@(Di ?Kn ?dU ?dG (?ai K H1 ys ?a) ?b),@(G ?a=?T8 ?b),@(C5 ?cv ?a ?b Fm),@(Bc ?a ?b ?aE),@(∀q,?gG=An m3 q+wF ?Hp ?a),@(VI W λk=>?a*s.1 i k+?b*s.1 j k),@(Kz λo3 o4 o5=>σ'=?n4/\?a),@(E7 ?a ?_ (?Yk ?b)),@(C5 ?gl ?a Fm (C9 ?b)),@(Ad (F1 (K:=K) ?w ?a) (?UA ?b)),@(?s (t:=?s2) (?Xa (?a/\?b)) ?t ?_),@(?p H2 ?a),@(.dK (cK ?a)),@(σ'=(?XQ ?a none none)),@(ys.length<=?a),@([?o ?a,?o ?b,?o ?c]),@(MX λ ?Bf ?CN ?nT ?IV ?GH=>?a),@([?yQ,?x,?sr,?a,none,none,none]),@((?U2 ?a ?b ?c).map ?S),@((?a:?bP).map ?S),@(σ'=(?XF ?dl ?el ?a)),@(λi ys τ G _ hz=>?XI ?a ?b ?c),@(Sx λ ?iz ?eb ?h7 ?QF=>?a),@(g _ _ ?a),@(?YA t (iS last)/\?a),@((?a ?b).map ?S),@(σ'=[?a4,?a,?b]),@(H' p=?Y9 ?a ?b),@(Dn λo3=>σ=?a/\F0=G),@(Cw (Aa ?w ?a)),@(Ak (?Xa (?rY/\?a)) ?_ ?b),@(?q H1 ?a ?b),@(?p G1 ?a),@(?XL none none/\?a),@(#[?g,?a,?h,?b,?_]),@(?a s1 sx n1 n2 ?b),@(λi σ H2=>?a),@(by let ?a:=hz;show ?T3 ?b ?c),@(Af (Bu ?a0 ?h ?a ?MF ?b)),@(?p G ?a),@(?a[j]?=?j ?b),@(Aa ?a (?XD ?b)),@(Yu (P3 ?a Ah Yr) ?r ?r ?eY ?gi),@(B6 (N':=?pH) (cap:=?ck) ?r ?a7 ?a ?sk ?aN ?b),@(Bq ?a ?aS Bg),@(Am (i:=?a) ?b ?c),@(Aa ?a Ac),@(Bq (?TA ?a ?b) ?c Bg),@(B6 (N':=?a) (cap:=?ev) ?r ?a7 ?gB (?Sy (?XA 0 ?b)) ?aN (?Sy ?c)),@(Af (Bw (C6 ?w ?bG Dm hr (?XD (Cw (?ZT Rh ?a ?b)))))),@(Ba Ev ?a ?b ?J),@(λ_ _ _ _=>(?XA 0 ?a)),@(Av ?ko ?dS Br (?T4 ?w (Gb (v:=.ty ?a) ?h ?b ?c ?h))),@(Ji λ ?P5 ?Gq=>Bv ?J4 ?a ?QN (?Y4 H' du ?b)),@(Bc Cg ?a Ah),@(Af (?TC ?a ?b)),@(Bw (C6 ?bA ?dL Mr hr (?XD (Cw ?a)))),@(Ad (O6 (Bu ?a0 ?h ?oQ ?a (Af (Bw ?b)))) ?eV),@(F1 (K:=K) ?w ?a),@(Ce (lo:=0) (n:=(?a:Int).toNat) ?b ?c ?_ ?_),@(Aa ?a (?T4 ?b ?c)),@(Ft (σ'=?a) ?aP ?b),@([?a4,?bR,?q4,?j ?qT,?TB ?dy,?a]),@(Bk ?a (Bk ?b (Bk ?c Ea))),@(σ'=(?XM ?a none none)),@(σ'=(?XF ?a none none)),@(Aa ?B ?a),@(?bN (Xj ?a (Rg ?b))),@(Jr (v:=?o 40) ?r ?a ?c0),@(restB c ?a ?kC),@(Dn λ ?il=>Bv ?a ?iS ?aP ?b),@(X9 λ ?AW ?sW ?nT ?qD=>?a),@(Bv (σ=?a) ?b (?Zz D ?c) ?R8),@(Ak ?a ?_ λkey=>?T5 #[?b,?h]),@(C6 ?aE ?bt ?a hr ?iM),@(wF ?Cc (cs.take ?a)),@(Cp ?a ?r ?f1 Fw ?b),@(Ai ?a hr ?b),@(Af (Az ?a)),@(Af (?a0h 6 ?eG (?T2 Oe ?b0 (Aa ?a ?EB)))),@(Bc Gy ?a Ah),@(Qh (d:=b) (o:=o) (kvs:=?bM) ?a ?b ?c ?_ ?_),@(Bq ?a ?b Bg),@(Ba ?a ?b ?c ?J),@(Gb (v:=.ty ?a) ?h ?b ?c ?h),@(Ni (?T2 Kq ?a (?ZT ?kL ?b ?iG)) ?c),@(O6 (Bu ?a0 ?h ?Fl (?TR ?a) ?b)),@(Bc ?cS ?a ?b),@(P5 Kg (Bc Jt ?a ?b)),@(Av ?nj ?oV Vl (Aa ?a Ac)),@(C5 ?cv ?w ?a ?b),@(λ_ _ _ _=>?a),@(Bc ?jT ?a (Cw ?b)),@(Av ?NX T.n_any HF ?a),@(B6 (N':=["hole"]) (cap:=?ck) ?r ?a7 ?kj ?Ak ?a ?b),@(Af (Az (?a1C ?OE (?a0i ?a)))),@(Ad (Bu ?a0 ?h ?nt (?VV ?a) ?b) ?aS),@(Bw (Iv (K:=K) qf6 qi9 qi8 Gi ?a ?b)),@(Bc Cg ?a ?b),@(Nh (?TA ?a ?b) (Ng ?c)),@(Am (i:=?a) ?b ?c),@(Av ?nj ?oV Vl (?a0i ?a)),@(Bc IM ?nK ?a),@(Ax ?as ?a Ah ?R),@(Yu (P3 ?a ?b ?c) ?r ?r ?eY ?gi),@(Ml (?a0m ?a ?b)),@(Lr ?a (Lq ?b)),@(Bu ?a0 ?h ?a ?b ?c),@(Af (Ni ?a ?b)),@(Af (?a0h 2 ?bn ?a)),@(Af (?a0g ?a)),@(#[_,(?a1E ?a),?_]),@(Cw (Aa ?a ?b)),@(Aa ?w ?a),@(BC ?bQ ?a ?b ?c ?r),@(Ad ?a (?a1E ?b)),@(Aa (?XC ?a ?b) Ac),@(Bc Dy ?a ?b)])
universe Hb
namespace L2
open PySem PySem.Spec PyProof.Rows
section
variable{P:Program}[?zF]{base:Heap}{ds:?wa}
universe e9
universe L2
namespace L2
open PySem PySem.Spec PyProof.Rows PySem.W
section
variable[?Sm]{sp:Sp}{m:Str}{pos apos:Pos}[?Sn]
universe e9
section
variable{P:Program}{w:World}{K:Frag}{mg:?fo}{base:Heap}{ds:?wa}
universe e9
section
variable[?Sm]{dvs:?b1}{sp:Sp}{m x:Str}{p pos apos:Pos}[?Sn]
universe e9
universe L2
namespace L2
open PySem PySem.Spec PyProof.Rows
abbrev Cz(K:W.Frag)(n:Str)(st:Stmt):Prop:=∃(f:Addr) (fd:FuncData),?Xq n ?x2/\?KG
abbrev Sr(K:W.Frag)(C:Addr)(n q:Str)(st:Stmt):Prop:=∃(f:Addr) (fd:FuncData),?Y3 ?uY n ?x2/\?Td ?mZ ?x2/\?Dd
abbrev BA(x q:Str)(st:Stmt)(ps:?aC):Prop:=∀(kV doc pm:Value) (an:OAddr) (Dr ct:Value) (us:?wa),?Tl ps.length->bindArgs (?jY x q (K8 st) (Io st) (Aq st) ?io kV doc pm an Dr ct) #[us,[]]=pure (ps.zip us)
section
variable{P:Program}[?zF]{base h:Heap}
def Bm(X:K.In h)(G:?sS){n:Str}[?zJ](d:?Tj n st)(ok:∀{f fd},?KG->?vO)(hb:BA n n st ps):?X2 ?Q n:=by let#[f,fd,a,F]:=d;show#[_,_,?UC a,F.kp,?vi,ok F]
def Hh{C:Addr}{n q:Str}[?zJ](d:Sr K C n q st)(ok:∀{f fd},?Dd->?vO)(hb:BA n q st ps):Kb P w K mg ?m C n ps k sp:=by have ?A4:=d;show#[_,_,#[a,b,F.kp],?vi,ok F]
def JE{C:Addr}{q:Str}[?zJ](m:?Td ?k7 C)(kc:?Td ?dz ?uY)(d:Sr K C ?bs q st)(ok:∀{f fd},?Sz ?bs q st->?vO)(hb:BA ?bs q st ps):?X2 MV C:=by let ?A4:=d;show#[_,_,#[m,a,b,kc],?vi,ok F]
universe e9
universe L2
namespace Hb
open PySem L2
abbrev top(i:Nat):Stmt:=PySem.Challenge.pw_holebook_k75_whole_book_of_any_shape.main.body.getD i (.Pass #[0,0,0,0])
structure Fx[?z6]:Prop where
 m_Lines:mg "Lines"=?JP
 cl_Lines:Cls K ?M
 na_Lines_rows:Er K ?M ?dp
 na_Lines_backs:Er K ?M ?eA
 m_Stairs:mg ?DL=?Ln
 cl_Stairs:Cls K ?Y
 na_Stairs_rows:Er K ?Y ?dp
 na_Stairs_backs:Er K ?Y ?eA
 na_Stairs_starts:Er K ?Y ?KK
 m_Work:mg "Work"=?RV
 cl_Work:Cls K ?V
 na_Work_table:?WQ ?bK
 na_Work_width:?WQ ?be
 na_Work_left:?WQ ?hC
 na_Work_right:?WQ ?fx
 na_Work_numbers:?WQ ?fW
 m_Book:mg "Book"=?Gn
 cl_Book:?ZF Cls
 na_Book_pieces:Er K ?aJ ?ft
 na_Book_levels:Er K ?aJ ?yA
 na_Book_lifts:Er K ?aJ ?fH
 x_GAPS:∃a,?Yd "GAPS" ?BI
 x_FACE_COUNTS:∃a,?Yd ?Of (?a0H ?x7)
 x_MOST_ROWS:∃t,?WO ?Fc 40
 x_LEVELS:∃t,?WO ?Pl 4
 x_MOST_PIECES:∃t,?WO ?CW 40
 n_isinstance:?Ti mg ?Ad
 n_int:?Ti mg "int"
 n_bool:?Ti mg ?mg
 n_tuple:?Ti mg ?o7
 n_zip:?Ti mg "zip"
 n_max:?Ti mg "max"
 n_len:?Ti mg "len"
 n_all:?Ti mg "all"
 n_range:?Ti mg "range"
 n_dict:?Ti mg ?tY
 n_any:?Ti mg "any"
 n_sum:?Ti mg "sum"
 n_list:?Ti mg ?h2
 n_enumerate:?Ti mg ?JL
 n_min:?Ti mg "min"
abbrev AW[?zN]:?bP:=(ns.drop ?IK).take (?q2 ?da ?da hi-?IK)
def Uu[?zN]:Co ?ee lo hi=?UY ?QG:=by unfold Co AW;rw[qa3,qp5,qt4]
def Zq[?zN]:?U1 ?QG ns.length:=by unfold AW;rw[qc3,qi7];show qa4 ?oj ?o2
def XC:(?pH:?aC).Nodup:=?a3
def An0:(?O1:?aC).Nodup:=?a3
def Bj3:(?QU:?aC).Nodup:=?a3
def Am9:(?Rf:?aC).Nodup:=?a3
def Bj2:(?Bu:?aC).Nodup:=?a3
def Am8:(?Nf:?aC).Nodup:=?a3
def Am7:(?B0:?aC).Nodup:=?a3
def Am6:(?Io:?aC).Nodup:=?a3
def wZ:(?qf:?aC).Nodup:=?a3
def Bj1:(?I7:?aC).Nodup:=?a3
def Az9:(?RC:?aC).Nodup:=?a3
def Az8:(?Av:?aC).Nodup:=?a3
def Az7:(?Mr:?aC).Nodup:=?a3
def Az6:(?F1:?aC).Nodup:=?a3
def xC:(?Kt:?aC).Nodup:=?a3
def Az5:(?B1:?aC).Nodup:=?a3
def Az4:(?BF:?aC).Nodup:=?a3
def xB:(?FU:?aC).Nodup:=?a3
def XA:(?zs:?aC).Nodup:=?a3
def xA:(?Pf:?aC).Nodup:=?a3
def Az3:(?gX:?aC).Nodup:=?a3
def IT:(?JB:?aC).Nodup:=?a3
def WZ:(["hole"]:?aC).Nodup:=?a3
def Az2:(?Rd:?aC).Nodup:=?a3
def Az1:(?hY:?aC).Nodup:=?a3
def Az0:(["_law_letter"]:?aC).Nodup:=?a3
def Ay9:(?RE:?aC).Nodup:=?a3
def Ay8:(?QB:?aC).Nodup:=?a3
def Ay7:(?IX:?aC).Nodup:=?a3
def Ay6:(?DA:?aC).Nodup:=?a3
def Ay5:(?Lj:?aC).Nodup:=?a3
def Ay4:(?Mt:?aC).Nodup:=?a3
def Ay3:([?dR]:?aC).Nodup:=?a3
def Ay2:(?Dj:?aC).Nodup:=?a3
def Ay1:(?Hw:?aC).Nodup:=?a3
def Ay0:(?FL:?aC).Nodup:=?a3
def Ax9:(?Hi:?aC).Nodup:=?a3
def Ax8:(?IC:?aC).Nodup:=?a3
def Ax7:([?j5]:?aC).Nodup:=?a3
def Ax6:(?Ds:?aC).Nodup:=?a3
def Ax5:(?Al:?aC).Nodup:=?a3
section
#check[Xc,1,Kj,3,Xb,6,Op,9,cB,15,iI,16,iH,17,Kl,29,cA,39,c9,41,II,43,Q6,49,CB,53]
meta abbrev F5:Stmt:=Ex ?tp 0
#check[W8,58,Oo,63]
meta abbrev Tq:Stmt:=?Wc 3
#check[Jo,69,f6,73,f7,74,Hx,76,Tk,79,Tm,84,Ra,85,Tj,86,Rb,89,Km,90,Ov,92,Kk,2,NS,14,Jp,32,Hu,36,e9,38,NT,40,Q7,42,Th,46,BZ,52]
meta abbrev Gg:Stmt:=Ex ?tp 2
meta abbrev Lo:Stmt:=Ex ?jv 0
#check[Rc,75,Ox,77,cC,78,Nf,87,Oy,93,Ht,8,Os,31,Xd,35,c8,37,Xh,50]
meta abbrev Hf:Stmt:=Ex ?tp 1
meta abbrev Ot:Stmt:=Ex ?jL 0
#check[Xa,70,d6,71,Tl,80,Kn,82,Q9,88,nU,7,d8,12]
meta abbrev Hw:Stmt:=Ex ?jv 4
meta abbrev Q8:Stmt:=Ex ?jL 4
meta abbrev W9:Stmt:=top 66
meta abbrev Re:Stmt:=?Wc 2
meta abbrev Rf:Stmt:=?Wc 4
meta abbrev Oz:Stmt:=?Wc 5
#check[Ow,81,Xf,11,Nc,30]
meta abbrev Ou:Stmt:=Ex ?jv 2
meta abbrev Lm:Stmt:=Ex ?jv 3
meta abbrev Hv:Stmt:=Ex ?jL 3
#check[To,83,Fv,13,Xe,28]
meta abbrev Ln:Stmt:=Ex ?jv 1
#check[CA,45,c7,56,Oq,47,Nd,48]
meta abbrev Ti:Stmt:=Ex ?jL 2
meta abbrev Jq:Stmt:=Ex ?jL 1
meta abbrev Tp:Stmt:=?Wc 6
#check[Xg,61,Lp,91,Xi,65]
meta abbrev O0:Stmt:=?Wc 0
meta abbrev N6:Stmt:=top 94
abbrev good(P:Program)(w:World)[?z6]:Prop :=∀{h:Heap} {fa:Addr} {Gk:Addr} {Tz Uy:OAddr} {Tb:W1} {T4 Ud Uq Ts Nt Uv:Value} {Hk:Addr} {V4 Wu:OAddr} {Vy:W1} {V5 V9 We V0 Pg Wr:Value} {Jf:Addr} {Y0 Zv:OAddr} {Ym:W1} {Y1 Y6 Zf Ys R7 Zr:Value} {Af8:Addr} {Am1 YS:OAddr} {Ak9:W1} {Am2 XQ YJ WJ RQ yN:Value} {S4:Tok} {Jj:Tok} {Om:Tok} {bH:Addr} {qO:Nat} {kL:W1} {FI FH fH FG fG:Tok} {Jz:Addr} {T7:Nat} {Si:W1} {Ps Pr Pq Pp:Tok} (X:K.In h) (G:?sS) (hfa:mg ?fI=?VA fa) (mR:?ZK "Lines" ?JP) (HS:?ZK ?DL ?Ln) (rX:?ZK "Work" ?RV) (RY:?ZK "Book" ?Gn) (dP:?Tj ?l2 Xc) (Qi:?Tj ?lU Kj) (DO:?Tj ?ol Xb) (Wg:?Tj ?ks Op) (MH:?Tj ?nz cB) (rN:?Tj ?om iI) (RM:?Tj ?oq iH) (Qk:?Tj ?n1 Kl) (MG:?Tj ?kq cA) (gW:?Tj ?p7 c9) (RN:?Tj ?od II) (Zg:?Tj ?n9 Q6) (MI:?Tj ?mJ CB) (Ww:?Y3 ?dX ?bs ?nr) (Ue:?Td ?mZ ?nr) (V8:?X5 Gk #[T4,Tz,?oa (?jY ?bs ?tn (K8 F5) (Io F5) ?QA ?io Ud Uq Ts Uy Nt Uv),Tb]) (Wt:?Vz Nt ?tn) (O8:?Td ?dz ?nr) (dN:?Tj ?oC W8) (Wf:?Tj ?lb Oo) (aK:?Vj ?v4 ?RX Tq) (Of:?Tj ?mI Jo) (gY:?Tj ?lA f6) (GY:?Tj ?nw f7) (Md:?Tj ?pf Hx) (AH:?Tj ?qM Tk) (AI:?Tj ?nX Tm) (Zk:?Tj ?qd Ra) (aH:?Tj ?oe Tj) (Zl:?Tj ?oN Rb) (Ql:?Tj ?qa Km) (Wl:?Tj ?oz Ov) (Qj:?Tj ?p1 Kk) (yK:?Tj ?lk NS) (Og:?Tj ?mK Jp) (Ma:?Tj ?pA Hu) (GX:?Tj ?lM e9) (YK:?Tj ?nA NT) (Zh:?Tj ?l3 Q7) (aG:?Tj ?m8 Th) (mG:?Tj ?kw BZ) (Zy:?Y3 ?dX ?hZ ?ni) (O9:?Td ?mZ ?ni) (Y5:?X5 Hk #[V5,V4,?oa (?jY ?hZ ?wD (K8 Gg) (Io Gg) ?K6 ?io V9 We V0 Wu Pg Wr),Vy]) (Zt:?Vz Pg ?wD) (Mn:?Td ?dz ?ni) (Sn:Sr K ?Y ?bs ?Ej Lo) (Zm:?Tj ?mk Rc) (Wn:?Tj ?qN Ox) (mJ:?Tj ?pY cC) (Ut:?Tj ?l4 Nf) (Wo:?Tj ?ns Oy) (L8:?Tj ?pa Ht) (Wi:?Tj ?qS Os) (DP:?Tj ?qG Xd) (GV:?Tj ?mR c8) (DR:?Tj ?li Xh) (aP:?Y3 ?dX ?de ?l0) (Ro:?Td ?mZ ?l0) (aD:?X5 Jf #[Y1,Y0,?oa (?jY ?de ?tq (K8 Hf) (Io Hf) ?OM ?io Y6 Zf Ys Zv R7 Zr),Ym]) (AL:?Vz R7 ?tq) (Oa:?Td ?dz ?l0) (Wj:Sr K ?V ?bs ?Qh Ot) (dO:?Tj ?lF Xa) (GW:?Tj ?nd d6) (aI:?Tj ?kc Tl) (Qm:?Tj ?lY Kn) (Zj:?Tj ?kg Q9) (yL:?Tj ?pL nU) (gX:?Tj ?pd d8) (Mc:Sr K ?Y ?yO ?Mn Hw) (Zi:Sr K ?V ?wA ?Nu Q8) (DN:?Tj ?nW W9) (Zn:?Vj ?ru ?Im Re) (Zo:?Vj ?vY ?IU Rf) (Wp:?Vj ?ui ?Ez Oz) (Wm:?Tj ?op Ow) (DQ:?Tj ?pD Xf) (Ur:?Tj ?lK Nc) (Wk:Sr K ?Y ?sq ?G7 Ou) (Sl:Sr K ?Y ?s4 ?Mf Lm) (Mb:Sr K ?V ?ys ?PY Hv) (aJ:?Tj ?ox To) (Ig:?Tj ?oH Fv) (dQ:?Tj ?oM Xe) (Sm:Sr K ?Y ?rc ?EF Ln) (mH:?Tj ?pw CA) (GU:?Tj ?pk c7) (Wh:?Tj ?qE Oq) (Us:?Tj ?ph Nd) (AG:Sr K ?V ?uA ?Ff Ti) (Oh:Sr K ?V ?rr ?Cf Jq) (AJ:?Vj ?dM ?Kz Tp) (dR:?Tj ?oi Xg) (So:?Tj ?mu Lp) (dS:?Tj ?ny Xi) (Wq:?Vj ?bs ?Ph O0) (Bs7:?Xq ?fI ?J7) (Bk4:?X5 Af8 #[Am2,Am1,?oa ?LN,Ak9]) (Bs3:?Vz RQ ?fI) (Bk7:?Td ?dz ?J7) (U1:?Y3 ?ek ?hZ ?ni) (Wv:?Y3 ?ek ?de ?l0) (GH:PySem.W.readsIn K ?M ?F7=true) (GJ:PySem.W.findCls K ?dX ?F7 ?bs=?j (.val ?nr)) (gJ:PySem.W.specialIn K ?dX "__getattribute__"=?Tr (?OT "type.__getattribute__")) (LO:?Td ?k7 ?M) (LV:?Td ?dz ?dX) (fY:?Td ?k7 ?Y) (GF:?Td ?dz ?ek) (QO:?Td ?k7 ?V) (qW:?Td ?dz ?eS) (qP:?Td ?k7 ?aJ) (QW:?Td ?dz ?hK) (KZ:?Uh ?M) (lZ:?Td ?lj ?M) (kX:?Td ?ll ?M) (KS:?ao K ?dX ?kz=?oF) (na_Lines_rows:?Tg ?dX ?dp) (na_Lines_backs:?Tg ?dX ?eA) (fW:?Uh ?Y) (gM:?Td ?lj ?Y) (fV:?Td ?ll ?Y) (FU:?Uz ?ek) (na_Stairs_rows:?Tg ?ek ?dp) (na_Stairs_backs:?Tg ?ek ?eA) (na_Stairs_starts:?Tg ?ek ?KK) (qJ:?Uh ?V) (rA:?Td ?lj ?V) (QH:?Td ?ll ?V) (QF:?Uz ?eS) (na_Work_table:?Tg ?eS ?bK) (na_Work_width:?Tg ?eS ?be) (na_Work_left:?Tg ?eS ?hC) (na_Work_right:?Tg ?eS ?fx) (na_Work_numbers:?Tg ?eS ?fW) (QJ:?Uh ?aJ) (RA:?Td ?lj ?aJ) (qI:?Td ?ll ?aJ) (qG:?Uz ?hK) (na_Book_pieces:?Tg ?hK ?ft) (na_Book_levels:?Tg ?hK ?yA) (na_Book_lifts:?Tg ?hK ?fH) (RX:?Xq "GAPS" (?z bH)) (QT:?X5 bH #[?Ed,?T,.seq #v[?o 32 FI,?o 16 FH,?o 8 fH,?o 4 FG,?o 2 fG] qO,kL]) (U0:?Xq ?Of (?z Jz)) (Ub:?X5 Jz #[?Ed,?T,.seq #v[?o 0 Ps,?o 2 Pr,?o 3 Pq,?o 4 Pp] T7,Si]) (Zu:?Xq ?Fc (?o 40 S4)) (HQ:?Xq ?Pl (?o 4 Jj)) (Ux:?Xq ?CW (?o 40 Om)) (Ya:?XU ?Ad) (Aj0:?XU "int") (vO:?XU ?mg) (pU:?XU ?o7) (Ai5:?XU "zip") (Ai8:?XU "max") (Ai9:?XU "len") (Aj2:?XU "all") (PU:?XU "range") (VN:?XU ?tY) (Aj1:?XU "any") (Ai6:?XU "sum") (vN:?XU ?h2) (y4:?XU ?JL) (Ai7:?XU "min"),∃fd:FuncData,(∀(s:Shared) (v:Value),?WE v (?hg,v))/\∀base:Heap,K.In ?m->?VW P K ?us
instance:Nonempty World:=#[#[?FZ,{ strHash:=?gV,shareClass:=?gV,mergeTok:=λt=>t,idOf:=?gV,idOfShared:=?FZ,followText:=λ_=>false,idOfImm:=?gV }]]
abbrev W0:?Iw:=?N1 λW0=>¬?Th ?mj
@[irreducible] abbrev P:Program:=W0.1
@[irreducible] abbrev w:World:=W0.2.1
@[irreducible] abbrev K:PySem.W.Frag:=?nD
@[irreducible] abbrev mg:?fo:=?ov
@[irreducible] abbrev C_Lines:Addr:=?pM
@[irreducible] abbrev C_Stairs:Addr:=?mf
@[irreducible] abbrev C_Work:Addr:=?qF
@[irreducible] abbrev C_Book:Addr:=?mj
@[irreducible] abbrev base:Heap:=?N1 ?FH
def UI(h:∀[?A],?jj->?x1)[?A](F:?jj)(b:Heap):?KW :=qs1 λz=>(by (obtain⟨f,fd,F2,n⟩:∃f fd,?jj/\¬?x1:=by unfold base;show Classical.epsilon_spec (p:=?FH) #[b,f,fd,F,z]);show n (h F2))
def YB(h:?xr)(P:Program)(w:World)[?z6]:?xr:=by refine qs1;intro z;let n:¬?Th ?mj:=@Classical.epsilon_spec _ (λW0:?Iw=>¬?Th ?mj) #[(P,w,K,mg,C_Lines,C_Stairs,C_Work,C_Book),z];refine n;unfold Hb.P Hb.w Hb.K Hb.mg Hb.C_Lines Hb.C_Stairs Hb.C_Work Hb.C_Book at h;show @h
def KP:?T7 ?cW ?cW Xc:=Bj
def lF[?A](F:?Sz ?l2 ?l2 Xc)[?F] :?Sw 1 ?cW ?Qb:=by apply ?TE KP;ext Rs
def Dj:?T7 [?ec,?dE,"last","now",?yi,"rest"] ?hk Kj:=Bj
def Yv[?A](F:?Sz ?lU ?lU Kj)[?F] :?Sw 1 ?hk ?zv:=by apply ?TE Dj;let#[n,p,?h,hA,hB,lA,lB,k]:=h;apply#[_,(Ad (?T1 2 ?gU (?a0R ?jO)) (Ad (?T1 3 ?gU (Cw (?a12 ?jO))) (Ad (Yq ?a0 (?TA Gn ?km) (Ad (?T1 4 ?gU (Bc Jt ?bx ?km)) (Ad (Am (i:=5) ?gU (Cp ?iN ?r ?ho F9 (?a0i (B6 (N':=?O1) (cap:=[none,none,?oh]) ?r ?a7 (?U6 Ab3 ?iT ?mz) (?ZO An0 An0) ?aN (?Sy (Bc Gy ?w ?Pg)))))) (Ad (?T1 2 ?gU ?X) (?XO 3 ?gU ?aY))))) (Ad (Bq ?MK (?a1E (?ZW (?a0f (?TL Rm ?H) ?Q9))) Bg) ?eV)))),?_];ext Z;apply ?OS;let s0:?Yn ?xn:=?L hL0;apply(?Wx (λN0 hN0=>?_));let s1:?p ?xn ?DJ:=?L hN0;apply ?TH [?eh,?cp,rS L0,rS N0,none,none] (H'=?DJ);rintro _ _ ⟨rfl,rfl⟩;apply ?Sv (Ex9 λ ?t5 (a x y u v:Int) ?u7=>Bv ?Lb ?aP (?ZH L ?iU) (?ZD 0));{apply#[λm σ G=>VC λ ?t5 (a x y b u v:Int) ?u7=>Z3 (σ=?IZ) ?c1 (?UR G L ?iU) (?UR G N ?wp) (?ZD b) ?Es ?Oz (m=b.natAbs),#[_,L0,N0,n,1,0,p,0,1,?T,?O,?kG s1,?T3 s1 Ab,?ag,Lat.EuI.start hA hB,lA,lB,?h],?_];rintro m σ G Cl;apply ?os;intro _;let#[L,N,a,x,y,b,u,v,o4,o5,?h,s2,hL,hN,hE,la,lb,?h]:=Cl;apply(?Tt N hN);apply ?av;{(let hb0:¬b=0:=?a5);let#[ZL,hlt]:=hE.step hA hb0;let#[?I,_,lu,lv]:=hE.all hA hB;(let lq:?J8<L9:=by apply qc1 ?_ la;let h3:(?e0*b).natAbs<=a.natAbs+(?xv).natAbs:=zn1 _ _;rw[qb7]at h3;let h4:0<b.natAbs:=za6.mpr hb0;apply qf4 λh5=>?_;let h6:=qc7 b.natAbs (show a.natAbs+1<=?J8 from h5);rw[qh6,qh3]at h6;let h7:=qg1 a.natAbs h4;ext d);let ok:∀z:Int,z.natAbs<L9->?o4 ?e0 z:=λz hz=>IU lq hz;apply(?YT (VC λ ?t5 (a' x y b' u v:Int) ?u7=>Z3 ?Lb (?p H G') (?UR G' L (?a0D a' x y)) (?UR G' N (?a0D b' u v)) (?yp n p a' x y b' u v) (a'.natAbs<L9) (b'.natAbs<L9) (b'.natAbs<b.natAbs)));{rintro σ' G' ⟨L',N',a',x',y',b',u',v',o4',o5',rfl,q1,q2,q3,q4,q5,q6,q7⟩;show#[b'.natAbs,q7,L',N',a',x',y',b',u',v',o4',o5',?h,q1,q2,q3,q4,q5,q6,?h]};apply#[?g,L,_,?i,hL,?h,?g,N,_,?i,hN,?h,?i,?vX hb0 lb,?_];apply#[?k,L,N,?h,#[_,hL],#[_,hN],?aW];(let gv:∀(i:Nat) (e f:V),?V5 ((?iU:?b1)) e->?V5 ((?wp:?b1)) f->∃e' f':Int,e=?o e'/\f=?o f'/\?o4 ?e0 f'/\i<3 ∧ (?n2:?b1)[i]?=?TB (e'-?e0*f'):=by intro i e f he hf;match i,he,hf with| 0,he,hf=>cases he;cases hf;show#[a,b,?K,ok _ lb,?gN]| 1,he,hf=>cases he;cases hf;show#[x,u,?K,?MR,?gN]| 2,he,hf=>cases he;cases hf;show#[y,v,?K,?MR,?gN]| i+3,he,hf=>simp at he);apply PD (K:=K) (a:=L) (b:=N) (xs:=?iU) (ys:=?wp) (n:=3) ?xQ (?Y1 ?n2 (?Zm (τ=[o1,o2,?TB ?e0]))) ?Mp (λi zs τ G1 _ hz=>by let#[s3,_]:=hz;show#[?hG hL,?hG hN]) ?_ ?_;{rintro i e f zs τ G1 pr he hf Cl hpr;revert τ;apply An4 ?_;intro s3 BG hzs o1 o2 Db;let#[e',f',?K,hok,hi3,hnext]:=gv i e f he hf;let sp:?a0U (?TG G1 pr [?o e',?o f']):=?xI;apply ?je;apply#[?k,?g,?i,hok,?i,?_];apply#[?Uv BG,?W1 ?bz,?Vw ?fr sp hD,?W,_,?g];rw[qd9,hnext,hzs];rfl};rintro zs τ G1 ⟨s3,BG,hzs,_⟩;apply ?JV;let s4:?Rh:=?eB;let A31:zs=?n2:=hzs;(let hT2:?UR ?H5 T1 ?n2:=?JR);show#[?k,N,T1,b,u,v,?xv,?MU,?OI,_,?g,?kF,(?hN).seqT hN,hT2,ZL,lb,qd8 hlt lb,hlt]};(let hb0:b=0:=?a5);subst hb0;show ?T5 #[L,N,a,x,y,u,v,o4,o5,?h,s2,hL,hE]};apply Bc7 λL N a x y u v o4 o5 G s2 hL hE=>?_;intro sq;let#[e1,e2,e3]:=hE.last hA hB;apply(?VD L hL);ext gJ;{(let ha:a<0:=?a5);apply(?Tn L #[_,hL]);have Pq1:?aG:=?Y1 ?wW (Dn λo1=>τ=[o1]);apply Qn (K:=K) (a:=L) (xs:=?iU) Pq1 ?bw (λi zs τ G1 _ hz=>?XW #[s3,_] ?hG hL) ?_ ?_;{rintro i e zs τ G1 he Cl;revert τ;apply ?az;intro s3 BG hzs o1 Db;(let gv:∃e':Int,e=?o e'/\i<3/\(?wW:?b1)[i]?=?TB (-e'):=by match i,he with| 0,he=>cases he;show#[a,?h,?gN]| 1,he=>cases he;show#[x,?h,?gN]| 2,he=>cases he;show#[y,?h,?gN]| i+3,he=>simp at he);let#[e',?h,hi3,hnext]:=gv;apply#[?k,BG,?W1 ?bz,s3.turn hD,?W,?g];rw[qd9,hnext,hzs];rfl};rintro zs τ G1 ⟨s3,BG,hzs,_⟩;apply ?JV;let s4:?Rh:=?eB;let A31:zs=?wW:=hzs;show k T1 (-a) (-x) (-y) _ ?kF ?JR (e2 ha)};(let ha:¬a<0:=?a5);show#[?g,k L a x y G s2 hL (e1 ?l)]
def KO:?T7 ?hY ?hY Xb:=Bj
def lE[?A](F:?Sz ?ol ?ol Xb)[?F] :?Sw 1 ?hY ?nk:=by apply ?TE KO;let#[x,ds,?h,hx,k]:=h;apply#[_,(?XB (?WF (?a1G ?dt) ?g5)),?_];(obtain⟨p,us,e,hq,hl⟩:∃(p:Addr) (us:?b1),x=?qR/\?YO p p:=by rcases hx with⟨p,us,e,hq,r⟩|⟨p,us,e,hq,r⟩;{show#[p,us,e,?dn,?Iv]};show#[p,us,e,?m1,?Iv]);subst e;apply#[?g,p,?aD,hq,?i,_,?g,?_];rw[hl];show k
def M9:?T7 [?ah,?kn,"j","i"] ?xu Op:=Bj
def cI[?A](F:?Sz ?ks ?ks Op)[?F] :?Sw 1 ?xu ?Dw:=by apply ?TE M9;let#[a,v,xs,p,?aQ,hv,Sk,hf,k]:=h;let#[pa,?h,hq]:=hv.sq;let hpl:(p.map ?S).length=p.length:=?fi;apply#[_,(Ad (Bu ?a0 ?h (?TZ ?Ky) (?XA 2 M9.nd) (Af (Bu ?a0 ?h ?lz (?TR M9.nd) (?ZU (Ba Gn (?Ue ?H ?X) (?Ue ?X ?r2) ?J) ?aS)))) ?aS),?_];ext Z;apply#[?g,pa,?g,?m1,?g,?N,?_];rw[hpl];have Pq2:?aR:=λj σ H2=>Ft ?LD ((∃o2 o3,σ=[?x,?pP,o2,o3])) (∀j' i',j'<j->?Wl j' j');apply Ce (lo:=0) (n:=((p.length:Nat):Int).toNat) Pq2 #[?h,#[?T,?O],λj' i' h=>?D5] ?_ ?_;{rintro j σ H2 hj Cl;ext f;let#[?h,#[o2,?eQ],hall]:=Cl;let hj':j<p.length:=Nat.lt_of_lt_of_eq hj ?yT;apply ?h1;have Pq3:?aR:=?a0Y (Ft ?LD ((∃o3,σ=[?x,?pP,?TB (0+j),o3])) (∀i',?Wl i j));apply Ce (lo:=0) (n:=?Ob) Pq3 #[?h,?c0,λi' h=>?D5] ?_ ?_;{rintro i σ H2 hi Cl;ext f;let#[?h,#[o3,?h],hall2]:=Cl;let hij:i<j:=?l;(let mj:?oK j 0∈p:=?Vn hj');(let mi:?vW∈p:=?Vn (qd8 hij hj'));let#[j0,j1,j2]:=hf _ mj;let#[i0,i1,i2]:=hf _ mi;let#[_,z,hq1,at1]:=?Vt ?g7 hv;cases z;rw[?TD (?Ob=j)]at at1;let#[_,z,hq2,at2]:=?Vt ?cC hv;cases z;rw[?mm]at at2;let#[vD,v1,hu1,av1,tv1]:=?cF hL j0 j1;let#[NB,v2,hu2,av2,vV]:=?cF hL i0 i1;let#[b1,e1,hb1,ab1]:=?Vt ?cC tv1;let#[b2,e2,hb2,ab2]:=?mp (i:=?g7-1) vV ?l ?l;subst e1 e2;rw[?mm]at ab1;rw[?TU ((?g7-1).toNat=j-1)]at ab2;apply#[?k,?g,pa,_,?i,hq1,at1,a,vD,?i,hu1,av1,?g,b1,_,?i,hb1,ab1,?_];apply#[?k,?g,pa,_,?i,hq2,at2,a,NB,?i,hu2,av2,?g,?i,b2,_,?i,hb2,ab2,?_];apply#[?h,?g,?_];cases hag:(?UW ((?oK j 0).toNat)).getD i 0=?NY (j-1) 0;{apply ?Tx (eqI hag);apply#[?h,?c0,λi' h=>?_];cases hz:i'=i;{subst hz;unfold Zw;show qf0 hag};show hall2 i' (?Ol h hz)};apply ?VF (neI hag);(let e2:?X0 ?uE:=by cases q:?uE with| false=>rfl| true =>unfold Ph at q;rw[qe3]at q;let q2:=q j (?yj hj');rw[qe3]at q2;let q3:=q2 i (?yj hij);show ?dB (qc9 q3) hag);rw[e2]at k;show k};rintro σ H2 ⟨rfl,⟨o3,rfl⟩,hall2⟩;apply#[?h,#[_,?g],λj' i' h1 h2=>?_];cases hz:j'=j;{subst hz;show hall2 i' ?l};show hall j' i' (?Ol h1 hz) h2};rintro σ H2 ⟨rfl,⟨o2,o3,rfl⟩,hall⟩;(let e2:?uE=true:=by unfold Ph;rw[qe3];intro j hj;rw[qe3];intro i hi;let:=qe6.mp hj;show hall j i ?l (qe6.mp hi));rw[e2]at k;show k
def fU:?T7 [?ba,?bb,?b9,"total"] ?yR cB:=Bj
private def tS[?A](F:?Sz ?nz ?nz cB)[?F] :?Sw 1 ?yR ?Ku:=by apply ?TE fU;let#[a,ms,k,n,?d8,hl,kq]:=h;ext bY;apply(?ZR (?T1 3 fU.nd (?a1Y (?Xi ?w ?B) ?H)) (Af (Bq ?Fs (Af (Bw (wN ?w ?B cG ?eJ))) (Af (?a1o ?w ?B ?X)))));ext Z;apply#[?g,a,?h,?V9 ?hT,?g,_,Rz ?hT,?g,An ms k,n,R9 ms k,?bg];ext kR;ext gJ;{(let e:An ms k+n=0:=?a5);unfold Kv at kq;rw[?ie]at kq;apply#[?g,a,?h,?V9 ?hT,?g,?bM,?u k,ha,?h,?NA,λhn=>?_];{rw[Ag9];show kq};rw[jO]at hn;(let hn':?fX ms k=none:=by simpa using hn);(let e2:Kf ms k=ms:=by unfold Kf;rw[za9];intro p hp;(let:¬p.1=k:=λz=>by let h3:(ms.any λp=>?ac (p.1=k))=true:=?xF #[p,hp,by simpa using z];rw[bJ]at h3;let#[p',uD,e']:=qd1.mp h3;rw[←e']at hn';(let:∀(ns:Ms),p'∈ns->?fX ns p'.1≠none:=by intro ns;induction ns with| nil=>ext dg| cons q ns ih =>intro hq;rw[Ep];split;{show ?Au};rename_i hne;rcases qe4.mp hq with rfl | hq;{show ?dB ?h hne};show ih hq);show ?fG ms uD hn');ext aF);rw[e2,At1 ha]at kq;show kq};(let e:¬An ms k+n=0:=?a5);unfold Kv at kq;rw[?iC]at kq;show(?WY a (BH ha hl) kq)
def WC:?T7 ?oU ?oU iI:=Bj
private def wU[?A](F:?Sz ?om ?om iI)[?F] :?Sw 1 ?oU ?Na:=by apply ?TE WC;let#[n,a,ms,?d8,hm,hok,k]:=h;apply#[_,(Ad (?a0j Ev ?w (?XB Ia)) (?a1V (NX (B6 (N':=?Nf) (cap:=[none,none,?e8]) ?r ?a7 ?oQ (?ZO Am8 Am8) ?aN (?Sy (?a0R (?XD ?Pg))))))),?_];ext Z;ext kR;ext gJ;{(let e:n=0:=?a5);intro D hD;apply k D _ hD ?eR ?_;rw[Ab];unfold Iq;rw[?ie];rfl};(let e:¬n=0:=?a5);ext S1;have Pq4:?aG:=?Y0 (Dn λ(ts:?jD)=>Lj ?Ba (ts.length=i) ((?Up ms (H1 t=?j (?a9 [?ii,?o (n*p.2)])))) ?yW ?iL ?DK (?Ta [o1,o2,?eh]));apply ?Zr Pq4 #[[],?K,?AR,?_,?W,?T,?O] (?UG ?Ow);{rw[?po];show Ab};ext zA;{rintro i kk x zs τ H1 p hx ⟨ts,rfl,jR,hts,ha1,Dv,hk1,o1,o2,rfl⟩ hp;let ?cy:=?cE;let hlt:?hl:=?fR;let sp:?sP:=?bk;apply ?eL;apply#[?k,?g,?i,?JC,?aH,?fh];let st:=?uV (?L (o:=?a9 [?gI,?o (n*q.2)]) ht);let ntD:?px:=(Ap ?q1 ht).symm;apply#[?Z7 Dv,?d1,ts++[t],?cq,by simp[jR],?zb,?_,Ab,?Jh,_,?g];{rw[List.getElem?_append]at e2;split at e2;{let ?JZ:=?LE;show(?VR jS st)};rename_i hj;(ext S2);rw[hj0]at e2;(let et:t=t':=?HY);subst et;apply#[q,by rw[show j=i by ext d];show hq,?_,ntD];rw[Aj ntD];show Ab};{rw[?po];show ?Z7 ha1};let:=?Oh;rw[?vC];show ?Z7 ?fG};rintro zs τ H1 ⟨ts,rfl,jR,hts,ha1,Dv,hk1,_⟩;rw[J7]at jR;apply#[ha1,D,ts,cK (?vT λp=>(p.1,n*p.2)),?h,?NE,(by rw[J7,qa3];show jR),?Qk,?ex];{let ?Nw:=?Ar;apply#[(?u p.1,?o (n*p.2)),?ad];{unfold cK;rw[qa6,qa6,jS];rfl};let nta:t≠a:=F8 h2' ha1 ?Au;rw[Aj nta];show h2'};(let s1:?VK H1 a ?v2:=λc q e2=>by ext z5;show ?vy);apply k E _ (?fM hE) (?bS ?hV) ?_;rw[Ab];let hnd':?mV:=?jk;rw[?V4 (oG hnd' n)];unfold Iq;rw[?iC,qt2]
def wC:?T7 ?qQ ?qQ iH:=Bj
def WT[?A](F:?Sz ?oq ?oq iH)[?F] :?Sw 1 ?qQ ?Hl:=by apply ?TE wC;let#[a,b,ms,ns,?d8,hb,nab,hm,hok,k]:=h;ext bY;apply(?a1l (Av (?TL oR ?r) T.n_sum uY (?a0i (NX (B6 (N':=?B0) (cap:=?sX) ?r ?a7 (Nj ?w) (?ZO Am7 Am7) ?aN (?Sy (Bc K4 ?B (?Xi ?H ?w))))))));ext S1;have Pq5:?aG:=?Y0 (Di (zs=?a0N ?N0 (λp=>p.2*An ns p.1)) ?yW ?iL ?DK (?Ta [o1,o2,?af]));apply ?Zr Pq5 ?JQ ?Ll;{rw[?po];show Ab};ext zA;{rintro i kk x zs τ H1 p hx Cl hp;revert τ;apply xN ?_;intro hz1 ha1 Dv hk1 o1 o2 Db;subst hz1;let ?cy:=?cE;let hlt:?hl:=?fR;let sp:?sP:=?bk;(let hb1:Rd H1 b ?w1:=by rcases hb with h|⟨z,h⟩;{show ?u ?PT};show ?a1 #[z,?PT]);let hb2:=qH sp hb1;apply ?eL;apply#[?k,?b4,?V9 hb2,?g,_,Rz hb2,q.2,An ns q.1,?h,R9 ns q.1,?JC,?_];apply ?Rg;{rw[qr0,hq,qb2,qb2];rfl};{rw[?po];show ?IG};rw[?vC];show ?Ju};rintro zs τ H1 ⟨rfl,ha1,Dv,hk1,_⟩;rw[J7,qc8]at Dv;apply#[ha1,D,?g,?n ?NE,k _ ?v7];ext z5;show ?vy
def Yo:?T7 ?cW ?cW Kl:=Bj
def Yx[?A](F:?Sz ?n1 ?n1 Kl)[?F] :?Sw 1 ?cW ?GQ:=by
 apply ?TE Yo;let#[v,xs,?aQ,hx,k]:=h;let#[Om,fB]:=T.x_MOST_PIECES;let ?QR:=?ff;ext SH
 apply(?ZV (Lr ?xU (?Ut QK ?dt (?a14 fB))));apply#[?g,?cm,?h2,?g,?rZ,hL,?g,?_];apply ?R5;apply#[?g,a,?g,?dn,?i,?_];exact Q (.bl (?ac (?h9<=40))) H;rw[qf0 ?l];show k
def TH:?T7 ?p6 ?p6 cA:=Bj
def tR[?A](F:?Sz ?kq ?kq cA)[?F] :?Sw 1 ?p6 ?Jq:=by apply ?TE TH;let#[v,h,w,j,f,?h,hv,hh,hj,k]:=h;let ?y2:=?fy;apply(?ZQ (?a0k ?Av Az8 ?me));ext ql;have Pq6:?aG:=?XY (Bv ?dU ?dG (ys=VI i (λi=>f i j)) (?TJ [o,iS j]));apply ?Ts Pq6 ?bw ?wH;{rintro i x ys τ H1 hx Cl;revert τ;apply ?az;intro s1 Dv hz1 o Db;subst hz1;let ?m0:=?rd;apply#[?k,b,_,?i,?th,Bs9 hj,?_];apply(?WX ?iq);rw[Zz]};ext kP;rw[Xs]at Dv;show ?xj
def nO:?T7 ?pv ?pv c9:=Bj
def oA[?A](F:?Sz ?p7 ?p7 c9)[?F] :?Sw 1 ?pv ?Mw:=by apply ?TE nO;let#[n,i,?h,hn,k]:=h;apply(?ZQ (B6 (N':=?F1) (cap:=?ev) ?r ?a7 ?Ab (?Sy (?XA 0 Az6)) ?aN (?Sy (CG (?a0m ?w ?B) Ah Ah))));ext qj;have Pq7:?aG:=λj ys τ H1=>?Zt (ys=VI j ?LL) (?TJ [o,?cg]);apply ?UO Pq7 ?bw;{rintro j ys τ H1 hj Cl;revert τ;apply ?az;intro s1 Dv hz1 o Db;subst hz1;apply ?Ik;let sz:(VI j ?LL).length<sizeLine:=?iq;apply ?av;{(let e0:?g7=?aX:=?a5);let e:j=i:=?l;apply ?Jb;rw[Zz,?ie]};(let e0:¬?g7=?aX:=?a5);let e:¬j=i:=?l;apply ?Jb;rw[Zz,?iC]};ext kP;rw[qb8]at Dv;show ?xj
def wD:?T7 ?qO ?qO II:=Bj
def WU[?A](F:?Sz ?od ?od II)[?F] :?Sw 1 ?qO ?AX:=by apply ?TE wD;let#[a,b,x,y,n,p,q,?h,hx,hy,hn,hm,k]:=h;apply(?a1l (B6 (N':=?Kt) (cap:=[none,none,?e8,?hr]) ?r ?a7 (?U6 iL ?iT (?a12 ?dc)) (?ZO xC xC) ?aN (?Sy (?a1Y (Bc K4 ?H ?w) (Bc K4 ?X ?B)))));apply#[?k,x,y,?h,#[_,hx],#[_,hy],?aW];apply HA (K:=K) (a:=x) (b:=y) (xs:=VI n p) (ys:=VI n q) (n:=n) (by rw[Bz,Bz,qz5]) (?Y0 (Bv ?dU ?iL (zs=VI i (λj=>a*p j+b*q j)) (?Ta [o1,o2,iS a,?cV]))) ?Mp (?UG (by ext gK;show#[?dV hx,?dV hy])) ?_ ?_;{rintro i u v zs τ H1 pr hu hv Cl hp;revert τ;apply An4 ?_;intro s1 Dv hz1 o1 o2 Db;subst hz1;let ?yV:=v6 hu;let ?c0:=v6 hv;let sp:?Xy (?TG H1 pr [?o (p i),?o (q i)]):=?bk;apply ?je;apply#[?k,?i,(hm i hi).1,?k,?i,(hm i hi).2,?i,?_];apply#[?q1,?iq,?V0 ?hD,?W,_,?g];rw[Zz]};rintro zs τ H1 ⟨s1,Dv,rfl,_⟩;show ?xj
def eN:?T7 ?p3 ?p3 Q6:=Bj
def eS[?A](F:?Sz ?n9 ?n9 Q6)[?F] :?Sw 1 ?p3 ?AA:=by apply ?TE eN;let#[a,b,sp,ms,?h,lX,hb,hl,kq]:=h;ext bY;apply(?ZQ (?a0k ?BF Az4 (?Xi ?B ?w)));apply(?Tn a #[_,lX]);have Pq8:?aG:=?Xh (ys=?a0G sp.take i (An ms)) (?TJ [o,?af]);apply Cs (K:=K) (a:=a) (xs:=?Df) Pq8 ?bw (λi ys τ G _ hz=>?Y7 ?kI ?ix lX) ?_ ?_;{rintro i x ys τ G hx Cl;revert τ;apply ?az;intro g Cu hys o Db;(ext SK);(let hxv:x=?o sp[i]:=?II);subst hxv;let BE:=qH g hb;apply#[?g,?b4,?V9 BE,?g,_,Rz BE,?_];rw[R9];apply#[Cu,?rn,?x0,?W,?g];rw[qd9,?bc,qb2,qb2,hys];rfl};rintro ys τ G ⟨g,Cu,hys,_⟩;rw[qa3,qc8]at hys;apply kq D G hD g ?_;rw[Cu,hys]
def tK:?T7 ?oA ?oA CB:=Bj
def tT[?A](F:?Sz ?mJ ?mJ CB)[?F] :?Sw 1 ?oA ?KS:=by apply ?TE tK;have#[u,t,?h,hu,k]:=h;apply(?ZR (?a1I (?a0m ?fs Rh) (?XB (?a1m Rh (?a0w ?fs ?fs (P5 Kg ?fs))))) (?XB ?w));ext Z;cases t with| ad i j n =>have ?iE:=hu;have ?va:=rT;apply ?HJ;apply ?L7;apply#[?g,ta,_,?i,hT,?h,?g,ta,_,?i,hT,?h,?g,ta,_,?i,hT,?h,?g,?aH,?gb];show k _ _ ?eB ?ib| mi i =>have ?iE:=id hu;have ?xE:=rT;ext Rz| sw i j =>have ?iE:=id hu;have#[?i,?i,?i,?h]:=rT;ext Rz
def aR:?E ?dC ?dC ?QA:=Bj
def Sj[?A](F:?Sz ?bs ?tn F5)[?F] :?Sw 1 ?dC ?uB:=by apply ?TE aR;let#[p,dx,C,r,?b4,hC,hp,k]:=h;ext yw;apply(?ZR ?Cp (Af ?Eh));ext Z;apply#[?k,p,C,dx,?g,hp,?fl,?wJ,?gP];apply#[?k,p,C,dx,?g,Ab,?fl,?p9,?Ia,?_];show k _ _ ?h ?h
def Tc:?T7 [?ca,"at"] [?ca] W8:=Bj
def LC[?A](F:?Sz ?oC ?oC W8)[?F] :?Sw 1 [?ca] ?JT:=by apply ?TE Tc;let#[c,W,st,u,?h,hq,hb,hW,k]:=h;let#[b1,b2,b3]:=hb;apply(?ZR (?T1 1 Tc.nd Ah) (Ad (Yq ?a0 (?TA Ev ?me) (?XO 1 Tc.nd ?mo)) ?jt));ext Z;apply ?Za [?h0,?TB ((0:Nat))];ext aw;apply ?Sv (σ'=[?h0,?Zg ?oJ]/\?bU);{apply#[λm σ G=>Dn λ(j:Nat)=>Bv (σ=[?h0,?q4]) (H=G) (j<=st) (m=st-j),#[_,0,?K,?ay,?h],?_];rintro m σ _ Cl;apply ?os;intro _;let#[j,?K,hj,?h]:=Cl;apply#[?k,c,_,?i,hq,?UF ?l,?h,?g,?_];apply ?av;{(let h0:u j=0:=?a5);let hlt:j<st:=qq3 hj λz=>b2 (z▸h0);apply(?YT (Dn λ(j':Nat)=>Ft (σ'=[?h0,?TB ((j':Int))]) (H=G') (j'=?db)));{rintro σ' G' ⟨j',rfl,rfl,rfl⟩;show#[st-?db,?No,?db,?K,hlt,?h]};show#[?g,?i,?db,?K,?h]};(let h0:¬u j=0:=?a5);(let hlt:j=st:=by rcases qj3 j st with h | h;{show ?dB (b1 j h) h0};ext d);subst hlt;show ?bC};ext aw;show#[?g,k]
def M8:?T7 [?bK,"i",?ca] [?bK] Oo:=Bj
def CH[?A](F:?Sz ?lb ?lb Oo)[?F] :?Sw 1 [?bK] ?P0:=by apply ?TE M8;let#[v,n,w,M,?h,hv,hn,hw,k1,k2]:=h;let ?s9:=?fy;apply#[_,(Ad (Bu ?a0 ?h ?wz (?Sx 1 M8.nd (?XA 2 M8.nd)) (?a1k (Dl (?a1T (Aa (B6 (N':=?Pf) (cap:=?sX) ?r ?a7 (?U6 Yt ?ok ?bl) (?ZO xA xA) (?Sy (?Yt ?w ?H)) (?Sy (Js Gn ?B Ah ?J))) Ac))))) ?aS),?_];ext Z;apply ?Sv (?Zm (?a0x ?En ?zh));{apply(?a0W ta ?Ha);have Pq9:?aR:=?Xb (?Zm (Ft (σ=?En) ?c1 (?RP i w M)));apply DH (K:=K) (a:=ta) (xs:=us) Pq9 #[?T,?O,?hj,λi j hi=>?l] (?TK (by let ?Jp:=hz;show ?mi)) ?_ ?_;{rintro i v σ G p hv Cl hp;ext f;revert σ;apply Ao5 ?_;intro o1 o2 s1 hS Db;let ?m0:=Nz i v hv;let sp:?a0b ?Ex:=?bk;apply ?eL;generalize ?Ex=G1 at sp;let s2:=?hD;apply#[?g,?b4,#[_,?Ij],?aW];have Cp8:?aG:=λj zs τ G2=>Dn λ(bs:?cO Bool)=>Lj (zs=bs.map ?hm) (bs.length<=j) ((?yH↔∃c,c<j/\c≠i/\M i c≠0)) (?a0U G2) (G2 D=?iV) (j<=w) (?Ta [o1,o2,?bR]);apply HB (K:=K) (a:=b) (xs:=?Rl) Cp8 #[[],?h,?hv,#[λz=>?RY,λ#[c,hc,_]=>?l],?aV,?ay,?T,?O] (λj zs τ G2 _ hz=>?XW #[?I,_,g,_] ?ix ?Ij) ?_ ?_;{rintro j y zs τ G2 pr hy ⟨bs,rfl,hbl,hiff,g,Cu,hj,q1,q2,rfl⟩ hpr;let#[hjw,?h]:=v6 hy;let gp:?p G2 ?OH:=?xI;apply ?je;generalize ?OH=G3 at gp;apply ?Ik;apply ?av;{(let hji:j≠i:=?Tf (((j:Nat):Int)=?aX) ?a5);apply#[?g,?h,?qZ,?d1,bs++[!(?ac (M i j=0))],?_,?gx,?_,?V0 ?u0,Ab,hjw,_,?g];{rw[qb2];congr 1;cases z:M i j=0<;>simp[z]};rw[List.any_append,qw1,hiff];constructor;{rintro (⟨c,h1,h2,h3⟩ | h);{show ?N8};show#[j,?l,hji,by simpa using h]};rintro ⟨c,h1,h2,h3⟩;rcases qj3 c j with h | h;{show ?u #[c,h,h2,h3]};let:c=j:=?l;subst this;show ?a1 ?xA};(let hji:j=i:=?W4 (((j:Nat):Int)) ?aX ?a5);apply#[bs,?h,?VG qg4 hbl,hiff.trans #[λ#[c,h1,h2]=>#[c,?l,h2],λ#[c,h1,h2,h3]=>?N8],?u0,?qZ,hjw,_,?g]};rintro zs τ G2 ⟨bs,rfl,_,hiff,g,Cu,_⟩;rw[Bz]at hiff;apply#[D,bs,?h,?fb,?g,?_];apply ?av;{(let h2:?yH:=?a5);let#[c,c1,c2,c3]:=hiff.mp h2;show k2 (λz=>c3 (z i c hi c1 λe=>c2 ?ty)) _ (?cI g)};(let h2:¬?yH:=?a5);apply#[_,?g,?cI g,λx c hx hc hne=>?_];rcases qj3 x i with h | h;{show hS x c h hc hne};let:x=i:=?l;subst this;show qi4 λz=>h2 (hiff.mpr #[c,hc,λe=>hne ?ty,z])};rintro σ G Cl;revert σ;apply Ao5 ?_;intro o1 o2 s1 hS Db;rw[Xs]at hS;show ?T5 #[_,?g,s1,hS]};apply Aj8 λo1 o2 G s1 hS=>?_;intro sq;show k1 hS _ s1
def IG:?T7 ?ln ?ln Tq:=Bj
def iT[?A](F:?Sz ?v4 ?RX Tq)[?F] :?Sw 1 ?ln ?Fx:=by apply ?TE IG;let(?X7 hk1):=h;let#[?kX,?I,hLf,dd]:=bk.ob;let hl:?Ps=wu.length:=dd.1.symm;apply(?ZV (?a1C Kt ?As));obtain⟨v,hv⟩:∃v,?Vk k.toNat:=#[_,qa0 (by let:=P9 ?dZ ls;show ?cQ hl (?c6 ?fG (?ir hk0 hk1)))];let#[c,?aB,hc]:=?sZ;(let hat:Vo wu k=?j ?xW:=by let:=?ds;ext Sf);show#[?g,?d7,_,?g,?tL,?bt,?uU,?h,?g,Lf,wu,?i,?T3 sB hLf,hat,c,?g,?YS sB hc,λD hD=>kq D _ hD ?eR Ab]
def W6:?T7 ?gX ?gX Jo:=Bj
def Xo[?A](F:?Sz ?mI ?mI Jo)[?F] :?Sw 1 ?gX ?Pj:=by apply ?TE W6;have#[a,us,ps,?d8,rU,hpl,kq]:=h;apply(?ZQ (B6 (N':=?Rd) (cap:=?ck) ?r ?a7 ?gB (?Sy (?XA 0 Az2)) ?Ms ?gp));apply(?Tn a (?YF ha));let ul:=rU.len;have Cp7:?aG:=?Xh (Cd G ys (noB ?q7)) ?dW;apply Qo (K:=K) (a:=a) (xs:=us) Cp7 (?Wz ?w8) (?a0J #[h1,_] h1 ha) ?_ ?_;{rintro i v ys τ G hv Cl;revert τ;apply ?az;intro h1 Cu rY o Db;let hi:=?cJ;apply ?U;let ?Ic:=rU.get hv;let pv1:=?ut h1;let ?xs:=id pv1;apply ?P;(let oZ:?k5 ?aZ=?q7++[p]:=by rw[qd9,hp];rfl);(let yl:?a0C 1000:=by let h2:=rY.len;let h3:=?Uk (p.1≠1) ?q7;rw[qc3]at h3;unfold noB at h2;ext d);apply ?is;apply ?fn;{(let xY:¬?oS:=?bV);apply#[?g,Cu,?bd,h1.turn hD,?W,?g];rw[oZ,lM,?ap xY];show Cd.snoc (Cd.put Cu rY) (pv1.put Cu)};(let xY:?oS:=?bV);apply#[h1,Cu,?_,?g];rw[oZ,lM,?b5 xY];show rY};rintro ys τ G ⟨h1,Cu,rY,_⟩;rw[ul,qc8]at rY;show kq D ys G hD h1 Cu rY
def NQ:?T7 ?lW ?lW f6:=Bj
def OC[?A](F:?Sz ?lA ?lA f6)[?F] :?Sw 1 ?lW ?On:=by apply ?TE NQ;ext Rs
def NR:?T7 ?kv ?kv f7:=Bj
def OD[?A](F:?Sz ?nw ?nw f7)[?F] :?Sw 1 ?kv ?nk:=by apply ?TE NR;let#[v,ds,?h,hs,k]:=h;apply(?ZV (?a1G (?WF Ah ?iP)));(obtain⟨t,us,rfl,hq,r⟩:∃t us,v=?kJ/\?YO t t:=by rcases hs with⟨t,us,e,h1,h2⟩|⟨t,us,e,h1,h2⟩;{show#[t,us,e,?u h1,?DR]};show#[t,us,e,?a1 h1,?DR]);apply#[?g,t,?aD,hq,_,?g,?i,?_];rw[r];(let e:?VQ 1=?it:=by unfold Ci;split<;>split<;>ext d);exact Q (?o (?VQ 1)) H;rw[e];show k
def Gx:?T7 [?ez,?jd,?bu] [?ez] Hx:=Bj
def Ty[?A](F:?Sz ?pf ?pf Hx)[?F] :?Sw 1 [?ez] ?My:=by apply ?TE Gx;let#[a,ms,?d8,hm,k]:=h;ext bY;apply(?ZR (?T1 1 Gx.nd Ia) (Ad (O6 (Bu ?a0 ?h (Vc ?w) (?XA 2 Gx.nd) (Af (?a0j Gn ?PD (Af (?a1o ?B ?H ?PD)))))) ?jt));ext Z;intro D hD;let naD:a≠D:=Ap ha hD;apply ?Tc a ?bM (by rw[Aj naD];show ha);let LY:?mV:=?jk;apply#[?g,a,?iB,?W];have Cp6:?aR:=λi σ H1=>Dn λo1=>Bv (σ=[?x,?aK,o1]) ?yW (?gd=?T8 ?AF) ((∀c q,c≠a->?J5));apply Qh (d:=a) (o:=o) (kvs:=?bM) Cp6 #[?O,?W,λc q n1 n2 e=>by rw[?h3,?hU];show e] (λi σ H1 _ hz=>?Qw) ?_ ?_;{rw[Aj naD.symm,Ab];rfl};{rintro i kk x σ H1 hx Cl;ext f;revert σ;apply ?pb;intro o1 ha1 Dv hk1 Db;let ?cy:=?cE;let hlt:?hl:=?fR;let hat:?wu:=?wI;apply#[?k,a,?gL,?CY,?h,?g,?_];let ct:=gZ hq;apply ?av;{(let e:¬q.2=0:=?a5);rw[?iC]at ct;(let ln:?U1 ?AF 1000000:=by let:=qT ?yf;rw[qc3]at this;ext d);apply#[?k,a,?gL,?CY,?k,D,?g,BH Dv ln,?_];apply#[?g,?ad,λc r n1 n2 e2=>?_];{rw[Aj naD];show ha1};{rw[Ab,put_new (Ag4 (VY LY hq)),ct]};rw[?hU];show hk1 c r n1 n2 e2};(let e:q.2=0:=?a5);rw[?ie]at ct;show#[?g,ha1,by rw[ct];show Dv,hk1]};rintro σ H1 Cl;revert σ;apply ?pb;intro o1 ha1 Dv hk1 Db;rw[J7,qc8]at Dv;apply#[ha1,?g,k D _ hD ?v7 (?V7 naD.symm)];ext z5;show hk1 c q z (Ap e2 hD) e2
def Mi:?T7 [?Ql,?jd,?ez,?bu] ?v9 Tk:=Bj
def IP[?A](F:?Sz ?qM ?qM Tk)[?F] :?Sw 1 ?v9 ?Ib:=by apply ?TE Mi;let#[g,c,gs,cs,?h,hg,hc,hmul,kq]:=h;ext bY;apply(?ZR (?T1 2 Mi.nd Ah) (Ad (?a1M Mi.nd (Af (?a0h 2 Mi.nd (?a1Y ?H (Bc K4 (?Xi ?w ?X) ?HC))))) ?eV));ext Z;apply ?Tc c ?oo hc;let LY:nd cs:=?jk;apply(?VC c ?oo);let hcF:?q H c ?n0 c=?j ?n0:=Ab;(let rg:Rd ?Hs g (?a0A gs):=by cases z:g=c;{subst z;rw[hg]at hc;injection hc with hc;show ?a1 #[o,by rw[Ab,hc]]};show ?u (by rw[?cR];show hg));(let hFk:∀d q,d≠c->H d=?ci->?q H c ?n0 d=?ci:=λd q n e=>?sx);generalize ?Hs=F0 at hcF rg hFk ⊢;have Cp5:?aR:=?Xb (?a0Q [rS g,?h0,?TB ?Jf,o3]);apply Qh (d:=c) (o:=o) (kvs:=?oo) Cp5 ?GU (λi σ G _ ?Lp=>by rw[←e];show hcF) ?_ ?_;{rintro i kk x σ G hx Cl;ext f;revert σ;apply ?bm;intro o3 hz1 Db;subst hz1;let ?cy:=?cE;let hat:?WS cs:=?wI;apply#[?k,g,?h,?Mh,?g,_,Rz rg,?k,c,?gL,?Tq hcF,?uH,q.2,?np,?h,?Oc,?i,?_];(let ew:?a1B ?aZ=?Jf+?uH*q.2:=by rw[qd9,hq,U5,qf8];exact _+(q.2*?uH+0)=_;rw[qe5]);show#[?jJ,by rw[ew];rfl,?h]};ext f5;apply ?bm;intro o3 hz1 Db;subst hz1;apply#[hcF,?g,?_];rw[J7,qc8];apply kq _ ?KI;cases z:d=c;{subst z;rw[hc]at e;cases e;show Ab};rw[?cR];show hFk d q z e
def iG:?T7 ?qg ?qg Tm:=Bj
def IQ[?A](F:?Sz ?nX ?nX Tm)[?F] :?Sw 1 ?qg ?LR:=by apply ?TE iG;let#[a,ns,k,?fD,h0,hl,kq]:=h;apply(?ZR (?a1I (Ba P8 ?B ?dt ?J) (?XB ?me)) (?XB Ah));ext Z;apply#[?k,a,?g,?u hS,?i,?g,?_];ext gJ;{(let h2:k<(ns.length:Int):=?a5);(let e:?Z0 ?ee k ?Pm:=by let#[j,?h]:=qh7 h0;apply Bh ?_;let hj:?CT:=?l;rw[qa6,?nU];simp[Iy,hj]);show#[?k,a,_,k,?g,?fD,e,kq]};(let h2:¬k<(ns.length:Int):=?a5);(let e:?Pm=0:=by unfold Iy;let:ns.length<=k.toNat:=?l;simp[this]);rw[e]at kq;show kq
def K3:?T7 [?fv,?em,?kB,"_law_faces",?iW] ?ue Ra:=Bj
def eU[?A](F:?Sz ?qd ?qd Ra)[?F] :?Sw 1 ?ue ?L0:=by apply ?TE K3;let#[v,?qw,hv,hw,k]:=h;let#[aw,?h,hq]:=hv.sq;let hlen:?ZL ?ge w.length:=?fi;(let hl4:w.length<=4:=by rcases hw with z | z | z<;>ext d);apply#[_,(Ad (?T1 2 K3.nd ?dt) (Ad (Bq ?Oj (?a1p (?a0j P8 ?H ?K8) (B6 (N':=?RE) (cap:=?sN) ?r ?a7 ?lz (?Sy (?XA 0 Ay9)) ?aN (?Sy (Bc ?jT (?a06 ?B ?w) (C5 ?gl ?B (C9 ?A2) Fm))))) Bg) (Ad (?a1I ?B2 ?K8) (Ad (Bq ?I8 (?a1p (?a1I ?B2 (?XB (E9 (Aa ?im ?Gu)))) (B6 (N':=["_law_letter"]) (cap:=?ck) ?r ?a7 ?sb (?Sy (?XA 0 Az0)) ?aN (?Sy (Cw ?bv)))) Bg) (Ad (?T1 3 K3.nd (E9 (?XD (C5 ?gl ?w ?pj Fm)))) (Ad (Bu ?a0 ?h (?TZ ?P1) (?Te K3.nd) (Af (?TC ?X (?XD (Bc ?jT (?a1S (?a06 ?w ?aE) (?a0i (?a1r (?a1Y (?ZS ?w ?aE) (?ZS ?w ?pl)) ?B))) (C5 ?gl ?w (C9 ?pl) Fm)))))) (Ad (?TC ?X (?XD (?a06 ?w ?r2))) ?IB))))))),?_];ext Z;apply#[?g,aw,?g,?m1,?_];rw[hlen];ext kR;ext gJ;{(let hf:?ja:=?a5);subst hf;apply ?cB;apply ?fn;{(let h3:?Eu:=?Ux ?fU 2 ?bV);apply ?Ft;apply ?AZ;(let e:Ay w 0=[]:=?Vm ?c7);rw[e];rfl};(let h3:¬?Eu:=?Tf (?fU<2) ?bV);(let e:Ay w 0=?U2 ?fw ?P3 ?Kc:=by unfold Ay;rw[?c7,?kt]);rw[e]at k;apply ?y1;have Cp4:?aG:=?XY (?Zy ?Fk (?TJ [o,rS aw]));apply ?UO Cp4 ?Q2;{rintro i ys τ H1 hi Cl;revert τ;apply ?fK;intro hi1 s1 Dv r1 o Db;(let hi2:?tE:=?CX);let hq1:?UR H1 aw ?ge:=?sH;apply#[?k,?g,aw,?g,hq1,?_,λp1 H2 s2 q2=>?_];{rw[hlen];rintro ⟨_,z⟩;rw[?Cg,HT.sIx_nat]at z;ext d};apply#[?k,?i,?g,aw,?g,s2.seqT hq1,?_,λp2 H3 s3 q3=>?_];{rw[hlen];rintro ⟨z,_⟩;rw[?Fh,HT.sIx_nat]at z;ext d};rw[?Cg,Li]at q2;rw[?Fh,J6]at q3;apply#[p1,p2,?i,?hG q2,q3,?_,λp H4 s4 q4=>?_];{apply Bl ?_;simp only[qc3,qi7,qa3];first | show zn4 ?l | ext d};let kT:?Xy H4:=?kF;let JR:H4 D=?dk:=kT _ _ Dv;(let t4:TI K H4 ?qR ?Ht:=by apply ?es;rw[qb2,qp5,qt4];show q4);let r4:?Y4 H4 ys ?Fk:=?aO kT r1;(let hyl:?mn:=?HU);apply#[JR,?bd,?l,?V0 ?xP,?W,?g];rw[ql5,qb2];show ?CI};rintro ys τ H1 ⟨_,s1,Dv,r1,_⟩;rw[show(?fU).toNat=w.length by show ?yT]at r1;show ?Co};(let hf:¬?ja:=?a5);ext kR;apply ?fn;{(let h3:?Dz:=?bV);apply ?Ft;apply ?AZ;(let e:?eT=[]:=?Vm ?nh);rw[e];rfl};(let h3:¬?Dz:=?bV);ext qn;apply ?kk;{(let h5:?kd:=?hQ);apply ?bo;apply ?bF ?Az ?Az;{(let h7:?zt:=?W4 ?fU 1 ?OD);(let e:?eT=[[],[]]:=?Us ?b5);rw[e]at k;apply#[?ay,λp1 hp1=>#[?ay,λp2 hp2=>#[?aH,?tj]]];let s1:?Yn ?sh:=?L hp1;let s2:?p ?sh ?xl:=?L hp2;let s3:?p ?xl (?Tv ?xl p [?jw,?PI]):=?bk;let hp0:?rI:=?X6 ?c3 hp;apply k p _ _ hp0 ?u5 Ab ?_;let t1:TI K _ ?jw []:=?f3 (?T3 s3 ?BN);let t2:TI K _ ?PI []:=?f3 (?T3 s3 Ab);show#[_,?g,t1,_,?g,t2,?h]};(let h7:¬?zt:=?Tf (?fU=1) ?OD);(let e:?eT=w.map ?o6:=?Us ?ap);rw[e]at k;apply(?Tn aw ?xw);have Cp3:?aG:=?XY (?Zy (?U2 ?Oi ?o6 tI) ?dW);apply Qn (xs:=?ge) Cp3 ?Q2 (?Xo (by let ?Ag:=hz;show ?sH)) ?_ ?_;{rintro i x ys τ H1 hx Cl;revert τ;apply ?fK;intro hi1 s1 Dv r1 o Db;(let hi2:?tE:=?gE);(let hx2:x=?A9:=?UM ?oX);subst hx2;apply(?Wx ?tj);let s2:?Xy ?Kj:=?bk;let JR:=?kr;let t4:TI K ?Kj ?qR [w[i]]:=?jP;let r4:=?aO s2 r1;(ext SO);apply#[JR,?bd,?l,?wl,?W,?g];(let e2:?U2 ?iy ?aZ ?o6=?Oi ?o6++[[w[i]]]:=by rw[qd9,?oX,qb2];rfl);rw[e2];show ?CI};rintro ys τ H1 ⟨_,s1,Dv,r1,_⟩;rw[hlen,qc8]at r1;show ?Co};(let h5:¬?kd:=?hQ);let hpos:0<fam:=?l;(let e:?eT=?Yy ?pc++[?Rj]:=by unfold Ay;rw[?nh,?kt,?ap h5]);rw[e]at k;apply#[?k,aw,?g,hq,?_,λp1 H1 s1 q1=>?Rc];{rw[hlen];rintro ⟨z,_⟩;rw[?Ki,HT.sIx_nat]at z;ext d};rw[?Ki,J6]at q1;let VG:?dY:=?Rk;let s2:?Xy ?Qe:=?eR;(let t1:TI K ?Qe ?jw ?p8:=by apply ?es;rw[qt4];show s2.seqT q1);let hn:?DN=?pc:=?l;apply#[?g,?i,?g,?N,Ce (lo:=0) (n:=?DN) (?a0Y (Ji λ(ys:?b1) ?hp=>Bv (σ=[rS aw,?cA,?TB ?P3,?aK,o]) ?eI (H2 D=?dk) (?Tz H2 ys ?P2))) #[_,?O,?c3,Ab,#[_,?g,t1,?h]] ?_ ?_];{rintro i σ H2 hi Cl;ext f;revert σ;apply ?eZ;intro ys o sH Je r2 Db;rw[hn]at hi;let hq2:?EU:=?Hr;let c0:?cC=?lm:=?l;let c1:?ss=?mv:=?l;let c2:(?cC+2)=((i+2:Nat):Int):=?l;(let at0:?Z0 ?ge ?cC ?M3:=by rw[c0];apply Bh ?_;rw[qa6,qa0 ?Cd];simp[show ?tE by show ?Cd]);(let at1:?Z0 ?ge ?ss ?MV:=by rw[c1];apply Bh ?_;rw[qa6,qa0 ?KM];simp[show ?aZ<w.length by show ?KM]);apply#[?g,?X4 Je,?_];apply#[?k,?g,aw,?g,hq2,?_,?KF];{rw[hlen];rintro ⟨_,z⟩;rw[c0,HT.sIx_nat]at z;ext d};rw[c0,Li]at qa;apply#[?k,aw,_,?i,?BK,at0,?k,?i,aw,_,?i,?BK,at1,?i,?g,?i,hpos,?aH,λpb hb=>?_];let sb:?p Ha (?TG Ha pb [?o ?AP]):=?L hb;apply#[pa,pb,?i,sb.seqT qa,?ag,?e9,λpc Hc sc qc=>?_];let sac:=?TM sa.trans sb sc;apply#[?k,?i,?g,aw,?g,sac.seqT hq2,?_,λpd Hd sd qd=>?_];{rw[hlen];rintro ⟨z,_⟩;rw[c2,HT.sIx_nat]at z;ext d};rw[c2,J6]at qd;apply#[pc,pd,?i,sd.seqT qc,qd,?e9,λpe He se qe=>?_];let wG:=?TM sac.trans sd se;let hDe:=wG _ _ Je;(let te:TI K He (?z pe) ?v1:=by apply ?es;simp only[qb2,qp5,qt4,qd7,qu5];show qe);(let hyl:?WL ?aZ:=?Gd);apply(?YZ hDe);apply#[_,?g,?Vw ?k1 wG VG,?W];(let e3:(?Yy ?aZ) = ?P2++[?v1]:=by rw[ql5,qb2];rfl);rw[e3];show Il hDe (?aO wG r2) te};ext kS;apply ?eZ;intro ys o sH Je r2 Db;rw[hn]at r2;let hq2:?EU:=?Hr;let c1:?Ya (?fU-1) ?pc:=?l;apply#[?g,?X4 Je,?k,?i,?g,aw,?g,hq2,?_,?KF];{rw[hlen];rintro ⟨_,z⟩;rw[c1,HT.sIx_nat]at z;ext d};rw[c1,Li]at qa;let hDa:=sa _ _ Je;(let ta:TI K Ha ?Nl ?Rj:=by apply ?es;rw[qp5];show qa);(let hyl:?WL w.length:=by let:=r2.length;simp at this;ext d);apply(?YZ hDa);apply ?bq;show k D _ _ VG (?Vw ?k1 sa VG) Ab (Il hDa (?aO sa r2) ta)
def C8:?T7 [?dT,?em,?G2,?kB,"_law_base",?fv,?dR] ?wh Tj:=Bj
def iP[?A](F:?Sz ?oe ?oe Tj)[?F] :?Sw 1 ?wh ?KQ:=by apply ?TE C8;let#[c,fam,letters,?h,hl0,hl1,hf,k]:=h;let m1:0<=?eD:=?yU;let m2:?eD<4:=?ow;apply#[_,(Ad (?T1 0 ?d3 ?ms) (Ad (?T1 3 ?d3 ?ms) (Ad (?T1 4 ?d3 ?H) (Ad (?Zi ?Oj ?d3 ?RG) (Ad (?Zi (?XZ ?I8 Gn ?X) ?d3 Ah) (Ad (?a0j V2 ?B (?XO 4 ?d3 ?B)) (Ad (?T1 0 ?d3 ?Kh) (Ad (?T1 5 ?d3 ?im) (Ad (Bu ?a0 ?h ?vc (?VV ?d3) (Ad (?a0h 5 ?d3 (?a1S ?aY (?XD (?a01 Dy ?w)))) (?XO 0 ?d3 (?a01 Ju ?w)))) ?Hg))))))))),?_];ext Z;apply#[?g,?i,(?TX 1000000),?_];apply#[?g,?i,?w0,?_];apply ?bq;let fork:?ja\/(?kd/\?eD=1)\/(?kd/\¬?eD=1)\/0<fam:=?l;let WY:¬?ja->¬?zX:=λz q=>z ?wd;(let Bk9:?ja->?zX:=λz=>by simp[z]);let hb0:0<letters:=hl0;let hb1:letters<1073741824:=?l;rcases fork with hz|⟨hz,h1⟩|⟨hz,h1⟩ | hz;{apply ?bo;apply ?VF (Bk9 hz);apply ?JK;apply ?cB;apply ?dx;apply ?fu;apply ?cB;apply ?dx;let hW:?Ua ((?wG).toNat):=λw e=>?u #[hz,?N];apply ?on;apply ?h1;apply ?a0v ?wG (?T9 ?wG ?fZ) ?l9;{rintro i σ H2 hi Cl;ext f;revert σ;apply ?eW;intro c' v o w s2 tv hwl Db;let ?na:=tv.sq;apply ?mB;let s3:?r9:=?pm;apply ?nO;apply ?oD;apply ?sY;rw[qb2];show q3};rintro σ H2 Cl;revert σ;apply ?eW;intro c' v o w s2 tv hwl Db;show ?nF};{apply ?bo;apply ?tJ;apply ?cB;apply ?vQ;apply ?bo;apply ?Tx (eqI h1);apply ?cB;apply ?dx;let hW:?RI:=?WI ?u ?Pu;apply ?on;apply ?h1;apply ?Xl ?Ns ?eD ?fZ;{rintro i σ H2 hi Cl;ext f;revert σ;apply ?eW;intro c' v o w s2 tv hwl Db;let ?na:=tv.sq;apply ?mB;let s3:?r9:=?pm;apply ?nO;apply ?oD;apply ?sY;rw[qb2];show q3};rintro σ H2 Cl;revert σ;apply ?eW;intro c' v o w s2 tv hwl Db;show ?nF};{apply ?bo;apply ?tJ;apply ?cB;apply ?vQ;apply ?bo;apply ?VF (neI h1);apply ?cB;apply ?dx;let hW:?Ua ?zu:=?WI ?u #[hz,?a1 (?a1 e)];apply ?on;apply ?h1;apply ?Xl ?zu (3) ?fZ;{rintro i σ H2 hi Cl;ext f;revert σ;apply ?eW;intro c' v o w s2 tv hwl Db;let ?na:=tv.sq;apply ?mB;let s3:?r9:=?pm;apply ?nO;apply ?oD;apply ?sY;rw[qb2];show q3};rintro σ H2 Cl;revert σ;apply ?eW;intro c' v o w s2 tv hwl Db;show ?nF};ext kR;apply ?tJ;ext qn;apply ?dx;ext qs;ext qn;apply ?vQ;apply ?bq;let hW:?RI:=?WI ?a1 ?Pu;let hb0:0<fam:=hz;let hb1:fam<1073741824:=?l;apply ?on;ext zD;apply ?Xl ?Ns ?eD ?cA;{rintro i σ H2 hi Cl;ext f;revert σ;apply ?eW;intro c' v o w s2 tv hwl Db;let ?na:=tv.sq;apply ?mB;let s3:?Y2 pt [?o ?Lq]:=?pm;apply ?nO;apply ?oD;apply(?WB ?Lq);rw[qb2];show q3};ext kS;apply ?eW;intro c' v o w s2 tv hwl Db;show ?nF
def Gf:?T7 [?dT,?am,"_law_sizes",?kB,?wN] ?yZ Rb:=Bj
def EU[?A](F:?Sz ?oN ?oN Rb)[?F] :?Sw 1 ?yZ ?D9:=by apply ?TE Gf;let#[a,us,xs,c,?d8,r,?b3,kq]:=h;apply#[_,(Ad (?a0h 2 ?j9 (E9 (?T4 ?uN (?ZS ?I0 ?N6)))) (Ad (Bu ?a0 ?h (?TL Bt (C5 ?cv ?H Fm (C9 ?ms))) (?TR ?j9) (Ad (?Zo ?j9 (?a1N (E9 ?Gu) (B6 (N':=[?dR]) (cap:=?ck) ?r ?a7 ?vc (?Sy (?XA 0 Ay3)) ?aN (?Sy (Cw ?jO))))) (Ad (?Zo ?j9 (?a1N ?aE (B6 (N':=?Mt) (cap:=[none,?j 3]) ?r ?a7 ?vc (?Sy (?XA 0 Ay4)) ?aN (?Sy (?a1m Ah (?a0d (?a1Y Ah (?a1r ?A2 ?B)) (?a1Y Ah ?w))))))) (Af (Am (i:=1) ?j9 (Bc ?cS ?aE (B6 (N':=?DA) (cap:=?rH) ?r ?a7 ?iY (?Sy (?XA 0 Ay6)) ?aN (?Sy (?ZW (B6 (N':=?Lj) (cap:=?ev) ?r ?a7 ?sb (?a0n Ay5) ?aN (?a1R (?a1Y ?nf ?w)))))))))))) ?jt)),?_];ext Z;apply ?Sv (Kz λ(l:Addr) (n1 n2:Nat)=>Di (?Xt (iS c) ?x ?cr) ((2<=n1/\n1<=4)) ((2<=n2/\n2<=4)) ?aP (?XJ l [?o (n1:Int),?o (n2:Int)]));{apply#[?g,?i,?e4,?i,?pr,?i,?aH,?fh];let s1:?Yn ?J6:=?L ht;let et:?q H t ?sI t=?j ?sI:=Ab;generalize ?J6=H1 at s1 et;let#[n2,hn2,hat]:=Af6 c;let#[n1,hn1,e1]:=vY c;apply#[?g,?i,?e4,?i,?w0,t,_,?i,?i3,hat,?aH,?vh];apply ?T5 #[l,n1,n2,?h,hn1,hn2,?bS ?vF,?_];rw[←e1];show Ab};apply Bd6 λl n1 n2 H1 hn1 hn2 s1 hl=>?_;intro sq;let#[zs,hz,zl,zm]:=Ag3 n1 n2 c;let c3:0<=c%3/\c%3<3:=?l;apply ?Sv (?a17 (Ey (σ'=?HS) ?aP (H' a'=?vv) (?Y4 H' us' ?hx) ?Ov ?kl));{apply#[?k,?i,?pr,?g,l,?g,?n hl,?ep];rw[hz];let s2:?Xy ?Il:=?gj;let vH:?q H1 C ?sA C=?j ?sA:=Ab;generalize ?Il=H2 at s2 vH;apply ?Qf;have Cp2:?aR:=?Xb (?a17 (Ey (σ=?HS) ?rk (G a'=?vv) (?ai K G us' ?hx) ?Ov (?a0C (xs.length+9*i))));apply ?bp (K:=K) (a:=C) (xs:=?O4) Cp2 #[a,us,xs,?T,?O,?gA,?Z2 ?c3 ha,?Vv ?c3,hs,?l] (?XR ?L3 g vH) ?_ ?_;{rintro i v σ G hv Cl;ext f;revert σ;apply ?lf;intro a1 vD ys o3 o4 g ha1 r1 hs1 hyl Db;let hi:=?cJ;rw[qa3]at hi;(obtain⟨n,hn,rfl⟩:∃n,?V5 zs n/\v=?S (n:Int):=by rw[qa6,?bc]at hv;show#[_,?bc,?Be]);(let Cb6:2<=n/\n<=4:=by rcases zm n (qa9 hn) with z | z<;>ext d);(let B27:vD.length=ys.length:=?HU);apply ?Sv (?a0p ?fk (([]::?c5 n [0,0]).map tI));{apply#[?aH,?fh];let g1:?a0b ?rV:=?L ht;let t1:TI K ?rV ?kJ []:=?jP;generalize ?rV=G1 at g1 t1;apply#[?aH,?xx];let g2:?a0U ?RS:=?n5;let e2:?q G1 e ?yP e=?j ?yP:=Ab;let t2:=?fd g2 t1;generalize ?RS=G2 at g2 e2 t2;apply ?y1;rw[qb8];have Cp1:?aG:=λj vs τ G'=>Di ?E3 ?rS (?Y4 G' vs ((?c5 j [0,0]).map tI)) ?Oy ?dW;apply ?UO Cp1 ?GG;{rintro j vs τ G' hj Cl;revert τ;apply ?fK;intro q Cu rG hjn o Db;(ext SW);apply#[?aH,?Cv];let q2:?p G' ?u3:=?L ht2;let tt:TI K ?u3 ?Px [0,0]:=?jP;generalize ?u3=G3 at q2 tt;apply ?Ir;rw[qv2];show ?zi};rintro vs τ G' ⟨q,Cu,rG,_⟩;(ext SX);apply#[e,D,?ku,vs,?K,?T3 q e2,?fb,?e9,?xf];let q3:?YM d (?ku++vs):=?lR;apply ?T5 #[d,?g,(?Lm q).trans q3,?W];show(?Q5 (?fd ?l1 t2)).append ?xX};apply pV λd0 du0 G1 g1 hd0 rd0=>?_;intro sq;(let dl0:du0.length=n+1:=by let:=rd0.length;ext aF);apply ?Sv (?a0p ?iI ((DM n).map tI));{apply#[?k,?g,?N,?aW];rw[qb8];have Cp0:?aG:=λj vs τ G'=>Di ?vA ?rS (?Y4 G' vs ((?U2 ?fw j (IB n)).map tI)) ?Oy (?TJ [o,?jU]);apply ?UO Cp0 ?GG;{rintro j vs τ G' hj Cl;revert τ;apply ?fK;intro q Cu rG hjn o Db;(ext SW);apply#[?g,?i,?g,?i,?l,?i,?g,?i,?aH,?Cv];rw[ZR n j];let q2:?p G' ?rF:=?L ht2;let tt:TI K ?rF ?Px ?Bl:=?jP;generalize ?rF=G3 at q2 tt;apply ?Ir;rw[ql5,qb2];show ?zi};rintro vs τ G' ⟨q,Cu,rG,_⟩;(ext SX);apply#[d0,D,du0,vs,?K,?T3 q hd0,?fb,Bl ?l,?xf];let q3:?YM d (du0++vs):=?lR;apply ?T5 #[d,?g,?l1,?W];unfold DM;rw[qb2];show ?WG rd0};apply pV λd du G2 g2 hd rd=>?_;intro sq;(let dl:du.length=?lH:=by let:=rd.length;rw[qa3,v3]at this;show this);let eZ:=?e6;let ha2:=eZ _ _ ha1;let r2:=?aO eZ r1;let h4:=Ja hs1;apply#[?k,a1,?h,(?YF ha2),?aW];have Co9:?aG:=λm vs τ G'=>Bv ?E3 ?rS (?Tz G' vs ?LV) ?Hz;apply Cs (K:=K) (a:=a1) (xs:=vD) Co9 ?bw (λm vs τ G' _ hz=>?XI #[q,_] q ha2) ?_ ?_;{rintro m x vs τ G' hx Cl;revert τ;apply ?az;intro q Cu rG o Db;(let hm:m<ys.length:=by ext cb;ext d);(let hix:?hx[m]?=?j (tI ys[m]):=?U5 ?nY);let ?k9:=r2.get hix;rw[hx]at hx';cases hx';let h4:=h4 _ (qd6 hm);(let e5:?ZG ?qB=?LV++[ys[m].map ?Qc]:=by unfold Xr;rw[qd9,?nY,qb2];rfl);generalize ys[m]=y at tx h4 e5;let ?Ce:=?e1 tx;let sqG:?UR G' ax ?Gg:=q.seqT sqx;apply ?Gh;have Co8:?aG:=λw vs' τ' G3=>Bv (?p G' G3) (G3 D2=?Zc vs') (vs'=?a0G y.take w ?Qc) ?PA;apply ?VH ?Gg Co8 (λw vs' τ' G3 _ hz=>?XW #[q2,_] q2.seqT sqG);{rintro w u vs' τ' G3 hu Cl;revert τ';apply ?az;intro q2 oU hys o'' Db;(let hw:w<y.length:=by let:=(?eU hu).1;ext aF);(let hyv:u=?o y[w]:=by rw[qa6,qa0 hw]at hu;simpa using hu.symm);subst hyv;apply#[?g,d,du,?h,?Xx (?ta) hd,?g,?i,oU,?rn,q2.turn Je,?W,?g];rw[qd9,qa0 hw,qb2,qb2,hys,dl];rfl};rintro vs' τ' G3 ⟨q2,oU,hys,_⟩;rw[qa3,qc8]at hys;apply ?PK;let q3:?p G3 (?TG G3 T2 vs'):=?uO;(let vl:?W3 m:=by ext f9;rw[qa3]at this;unfold Xr at this;rw[qa3,qc3]at this;ext d);apply#[?Rn,?bd,(?Tb ?ta q3).turn hD,?W,?g];rw[e5];apply ?Vp ?Rn ?MC ?es;rw[←hys];show ?ag};rintro vs τ G' ⟨q,Cu,rG,_⟩;rw[B27,qc8]at rG;(let vl:?Ey:=by ext f9;rw[this,qa3];unfold Xr;rw[qa3]);apply#[d,D,du,vs,?K,?T3 q hd,?fb,Bl (by rw[dl,vl];ext d),?xx];let q3:?YM e ?Iu:=?n5;apply#[e,?Iu,DM n++Xr (DM n).length ys,_,?g,?Z1 ?BJ q q3,?W,OJ (ME Cb6.1) hs1,?_];{rw[qb2,v3];show ?WG rd};rw[qb6,v3];unfold Xr;rw[qa3];ext d};rintro σ G Cl;revert σ;apply ?lf;intro a1 vD ys o3 o4 g ha1 r1 hs1 hyl Db;rw[qa3]at hyl;show ?T5 #[a1,vD,ys,_,?g,?u6 g,ha1,r1,hs1,?l]};apply Aj4 λa1 vD ys o3 o4 H2 s2 ha1 r1 hs1 hyl=>?_;intro sq;show#[?g,kq a1 vD ys H2 s2 ha1 r1 hs1 hyl]
def Cm:?T7 [?am,?i1,"_law_pieces","_law_old",?dT,?wB,?jl] ?v8 Km:=Bj
def Yy[?A](F:?Sz ?qa ?qa Km)[?F] :?Sw 1 ?v8 ?NJ:=by apply ?TE Cm;have#[a,l,ns,xs,?aQ,hS,hnl,B8,hx4,k]:=h;ext bY;have ?R9:=?ff;apply#[_,(Ad (?T1 2 ?ea ?ym) (Ad (?T1 3 ?ea (IL ?r ?r ?hS ?r ?b7 ?iP)) (Ad (Bu ?a0 ?h ?iY (?Te ?ea) (Af (Bq (?TA V2 ?eo) (Ad (?T1 5 ?ea (?a1r ?aE (?a1G ?eo))) (Af (Bq (Ba ?j2 ?aY ?FA ?h) (Ad (Am (i:=6) ?ea (?a1e ?aY ?jr (P3 ?jr ?aY Yr))) (Ad (?a0h 2 ?ea (?a1N (?Zq ?H ?FA (?XC ?H ?aY)) (?a00 ?H ?QS))) (Ad (?a0h 3 ?ea (?a1N (?Zq ?X (?XC ?X ?jr) ?Jn) (?a00 ?X ?QS))) (Af (Mm (N':=?Dj) (cap:=[none,?j 6]) (i:=2) ?ea ?r ?eK ?r ?a7 ?NF (?Sy (?XA 0 Ay2)) ?aN (?Sy (?ZW (B6 (N':=?Hw) (cap:=?ev) ?r ?a7 ?sb (?a0n Ay1) ?aN (?a1R (Ld ?bQ ?B ?w ?w ?eJ)))))))))) Bg))) Bg))) (?XB (Cw ?mz))))),?_];ext Z;cases z;ext z4;apply#[?g,a,?aD,?dn,?QE];let s0:?Yn ?zY:=?L hp0;apply ?TH (?Yf none) (H'=?zY);rintro _ _ ⟨rfl,rfl⟩;apply ?Sv (Dn λ(o:Addr)=>Di (σ'=(?Yf (rS o))) ?aP (H' p0=?e5) ?vB (?XJ o (?a0N PY ?dZ)));{apply#[?g,a,?aD,?u (s0.seq hq),?dZ,by rw[VT],?l,λo ho=>?_];show ?T5 #[o,?h,?kG ?Nk,?Z2 ?Nk Ab,?jy ho,Ab]};apply JU λo H1 s1 hp1 hoN ho1=>?_;intro sq;apply ?Sv (?a0E (Z3 (σ'=?Kk) ?aP ?rI ?vB (H' p=?wj) (?XJ o ?gS) (?Y4 H' vs ?hx) ?RR));{apply#[?g,l,?h,#[_,?m3],?bp (K:=K) (a:=l) (xs:=?ee) (λj σ H2=>?a0E (Z3 (σ=?Kk) ?eI ?rI ?vB (H2 p=?wj) (?VI o ?gS) (?Y4 H2 vs ?hx) ?RR)) #[p0,o,us,xs,_,?gO,?O,s1,hp0,hoN,hp1,ho1,?Vv s1,.refl] (?Ub #[?I,?I,?I,s2,_]) ?_ ?_];{rintro j x σ H2 hx Cl;ext f;revert σ;apply An5 ?_;intro p o vs ys os o1 o2 o3 s2 hp ho hp2 ho2 r2 hT Db;(ext SJ);(ext SD);subst hxv;(let vsl:?Ey:=?Gd);let#[hyl,hol]:=hT.len;apply#[?g,p,vs,?h,?u ?yJ,?i,?g,?_];apply ?UT ?FK;(let h2:1<ys.length:=?Ux ((1:Int)) ?FS ?a5);apply#[?k,p,vs,?h,?u ?yJ,?i,?i,(by exact ?bW<?wx;ext d),?_];apply ?U;(obtain⟨t,ht,ht1⟩:∃t:Nat,?oP=?c4/\t+1<ys.length:=by let a0:0<=?oP:=?LY;let a1:?oP<?wx:=?Qt;show#[(?oP).toNat,?N]);apply ?P;apply ?a05 (λσ' G=>σ'=[?x,?cr,?a4,rS o,?j ?H7,?j ?lo,o3]/\H2=G) #[by rw[←ht];rfl,?h];rintro _ _ ⟨rfl,rfl⟩;(let get:∀{i:Nat},i<ys.length->∃v,vs[i]?=?au/\TI K H2 v ?Fm:=λ{i} hi=>by (let e:?V5 ?hx (tI ?Fm):=by rw[qa6,?bc,qa1,?bc];rfl);have ?B9:=r2.get e;show ?B9);apply ?U;let#[va,hva,tva]:=get (i:=t) ?t9;let#[vb,hvb,tvb]:=get (i:=t+1) ht1;let atb:Vo vs ?hh=?j vb:=Bh (j:=t+1) hvb;let ata:Vo vs ?c4=?j va:=?Yw hva;let#[ab,?h,sqb]:=?e1 tvb;apply ?P;apply#[?k,?g,?i,p,vs,?i,?yJ,atb,?lo,Ek ?xH,?h,?a1 #[ab,?g,sqb,?ou],?Jw,?g,?_];apply ?bF ?xh (λh3=>?FK);(let hmem:?c4 ∉ ?xH:=by intro hm;let h4:((Ek ?xH).any λe=>eqD e ?lo)=true:=?xF #[?lo,qd1.mpr #[_,hm,?h],by simp[eqD]];rw[h4]at h3;simp at h3);let hT2:=Kw.step t hT ht1 hmem;apply λd hd=>#[?k,?i,?g,?i,?g,Ab,[(?nG ?c4,?S ?hh),(?nG ?hh,?S ?c4)],?h,?gP];rw[Af9];(let e3:?q (?WR H2 d) d ?rW=?nS:=?Tp d);rw[e3];let s3:?a09 ?nS:=?lR;let hd3:(?nS) d=?uf:=Ab;generalize ?nS=H3 at s3 hd3;let hp3:=?HF;let ho3:=?Y5 ho2;apply#[?k,?g,p,vs,?h,?n hp3,λc1 hc1=>?_];let s4:?p H3 ?sj:=?L hc1;let Bo1:?ZM ?sj c1 ?PB:=Ab;generalize ?sj=H4 at s4 Bo1;let Sk:=?xD;apply#[?k,?i,p,vs,?i,?w3,atb,?k,p,vs,?i,?w3,ata,?aH,λc2 hc2=>?_];let s5:?p H4 ?xg:=?L hc2;let Bo0:?ZM ?xg c2 ?CS:=Ab;generalize ?xg=H5 at s5 Bo0;(let De9:?U1 ?yB 1000:=by rw[Li,qc3];ext d);(let XM:?U1 ?wq 1000:=by rw[?HT,J6,qi7];ext d);apply#[c1,c2,?i,?T3 s5 Bo1,?n Bo0,?VM Bl,λc3 hc3=>?_];let s6:?p H5 ?xd:=?L hc3;let Bn9:?ZM ?xd c3 ?MP:=Ab;generalize ?xd=H6 at s6 Bn9;apply#[?k,?i,?g,p,vs,?h,?T3 (?sR) Sk,λc4 hc4=>?_];let s7:?p H6 ?t0:=?L hc4;let Bn8:?ZM ?t0 c4 ?Ei:=Ab;generalize ?t0=H7 at s7 Bn8;apply#[c3,c4,?i,?T3 s7 Bn9,?n Bn8,?V3 Bl,λc5 hc5=>?_];let s8:?p H7 ?yg:=?L hc5;let A40:?ZM ?yg c5 ?Iz:=Ab;let r8:=tM r2 tva tvb;generalize ?yg=H8 at s8 A40;generalize ?OW=ws at A40 r8;let s28:?a09 H8:=((?Z1 ?hN s5 s6).trans s7).trans s8;let hd8:H8 d=?uf:=((?Z1 ?nE s6 s7).trans s8) _ _ hd3;replace r8:=?aO s28 r8;let ho8:=s28 _ _ ho2;let oa:Vo ?gS ?c4=?j ?M8:=?Yw (?Tk ?t9 ?t9);let ob:Vo ?gS ?hh=?j ?Ao:=Bh (j:=t+1) (?Tk ht1 ht1);apply(?WY o (?n ho8) ?ID);let s9:?p H8 ?rp:=?tR;let Bn3:?ZM ?rp e1 ?KT:=Ab;generalize ?rp=H9 at s9 Bn3;let ho9:=s9 _ _ ho8;apply#[?k,?i,o,_,?i,?n ho9,ob,?k,o,_,?i,?n ho9,oa,?aH,λe2 he2=>?_];let s10:?p H9 ?uG:=?L he2;let Ap5:?ZM ?uG e2 ?Ea:=Ab;generalize ?uG=H10 at s10 Ap5;(let Cu0:?U1 ?wS 1000:=by rw[Li,qc3,qa3];show qa4 ?oj ?Ne);(let Ct9:?U1 ?OX 1000:=by rw[?HT,J6,qi7,qa3];show qa4 ?o2 ?Ne);apply#[e1,e2,?i,?T3 s10 Bn3,?n Ap5,?VM Bl,λe3 he3=>?_];let s11:?p H10 ?r1:=?L he3;let Ap4:?ZM ?r1 e3 ?Jx:=Ab;generalize ?r1=H11 at s11 Ap4;apply#[?k,?i,?g,o,?g,?T3 (s10.trans s11) ho9,λe4 he4=>?_];let s12:?p H11 ?tc:=?L he4;let Ap3:?ZM ?tc e4 ?Du:=Ab;generalize ?tc=H12 at s12 Ap3;apply#[e3,e4,?i,?T3 s12 Ap4,?n Ap3,?V3 Bl,λe5 he5=>?_];rw[UB];let s13:?p H12 ?sD:=?L he5;let Ap2:?ZM ?sD e5 ?K1:=Ab;generalize ?sD=H13 at s13 Ap2;let Aa0:?p H8 H13:=((?TM s9.trans s10 s11).trans s12).trans s13;(let hfo:?Ti H e5:=by let:?Yn H12:=((?TM ?Mb s9 s10).trans s11).trans s12;show this.free he5);replace r8:=?aO Aa0 r8;let Ap7:=Aa0 _ _ A40;let Cd1:=Aa0 _ _ hd8;let Bg7:?Yn H13:=?Mb Aa0;(let wsl:ws.length=?J9:=by let:=r8.length;ext aF);let hsl:=FJ ht1;(let h4s:∀q∈?gc,q.length<=4:=?WJ (by rcases FY hq with z | z;{show hT.le4 hx4 q z};subst z;show ?ay));apply(?Tn c5 (?YF Ap7));let hDH:?dY:=Bg7.free hD;have Co7:?aG:=λi zs τ G=>Bv (?p H13 G) ?Rm (?Y4 G zs (?U2 ?Hv ?yY tI)) ?Hz;apply Cs (K:=K) (a:=c5) (xs:=ws) Co7 ?bw (λi zs τ G _ hz=>?XI #[g1,_] g1 Ap7) ?_ ?_;{rintro i x zs τ G hx Cl;revert τ;apply ?az;intro g1 Cu rG o' Db;let hi:?NZ:=?fT;let hi2:i<?J9:=?l;(let hix:?V5 ((?gc).map tI) (tI ?gc[i]):=?U5 ?oX);apply ?U;let ?k9:=r8.get hix;apply ?P;rw[hx]at hx';cases hx';let hq4:=h4s _ (qd6 hi2);generalize hqe:?gc[i]=q at tx hq4;apply ?U;let ?Ce:=?e1 tx;apply ?P;let sqG:?UR G ax ?DB:=g1.seqT sqx;apply ?Gh;have Co6:?aG:=λm ys' τ' G'=>Bv ?rL (G' D2=?Zc ys') (ys'=?a0G q.take m ?Bj) ?PA;apply ?VH ?DB Co6 (λm ys' τ' G' _ hz=>?XW #[g2,_] g2.seqT sqG);{rintro m y ys' τ' G' hy Cl;revert τ';apply ?az;intro g2 oU hys o'' Db;(let hm:m<q.length:=?K2);(let hyv:y=?o q[m]:=by rw[qa6,?nY]at hy;simpa using hy.symm);subst hyv;let Bn5:G' d=?uf:=?Z2 ?e6 Cd1;apply#[?g,d,?h,?V9 ?Qp,?k,_,Br8 ?Qp,?_];(let ev:(Option.map ?S ?N2).getD (?S q[m])=?S (NH t q[m]):=by rw[←Ae4];cases ?N2<;>rfl);rw[ev];apply#[oU,?rn,g2.turn Je,?W,?g];rw[qd9,?nY,qb2,qb2,hys];rfl};rintro ys' τ' G' ⟨g2,oU,hys,_⟩;rw[qa3,qc8]at hys;apply ?PK;let g3:?p G' (?TG G' T2 ys'):=?uO;let Ch0:=?vd;apply#[?F8,?bz (by ext f9;rw[this,qa3,qa3,qc3];ext d),Ch0.turn hD,?W,?g];(let e5:?U2 ?PQ ?aZ ?yY=?Hv ?yY++[?AG]:=by rw[qd9,?oX,qb2,hqe];rfl);rw[e5];apply ?Vp ?F8 ?d0 ?es;rw[←hys];show ?ag};rintro zs τ G ⟨g1,Cu,rG,_⟩;rw[wsl,qc8]at rG;show#[D,e5,zs,Yc ys t,Vt os t,_,_,?g,Bg7.trans g1,hDH,hfo,Cu,?Ug Ap2,rG,hT2]};rintro σ H2 Cl;revert σ;apply An5 ?_;intro p o vs ys os o1 o2 o3 s2 hp ho hp2 ho2 r2 hT Db;show ?T5 #[p,o,vs,ys,os,o1,o2,?eQ,?zU]};apply Bc8 λp o vs ys os o1 o2 o3 H2 s2 hp ho hp2 ho2 r2 hT=>?_;intro sq;ext Si;let sR:?Y2 R [?qR,?z o]:=?uC;show k R p o vs ys os _ (?cI sR) Ab hp ho (sR _ _ hp2) (sR _ _ ho2) (?aO sR r2) hT
def Cq:?T7 [?am,?dT,?kB,?Gw,?Jy,?dR,"_law_some",?iW] ?xb Ov:=Bj
def cL[?A](F:?Sz ?oz ?oz Ov)[?F] :?Sw 1 ?xb ?P4:=by apply ?TE Cq;have#[a,xs,c,?aQ,hsh,B8,kq]:=h;have ?R9:=?ff;apply#[_,(Ad (?T1 2 ?dQ (?ZS ?I0 ?EV)) (Ad (?T1 3 ?dQ (PEw.h (Ab9 (K:=K) (WO (ns:=?HX) ?a7) ?H ?R))) (Ad (?T1 1 ?dQ ?BY) (Ad (?T1 4 ?dQ ?im) (Ad (Bu ?a0 ?h ?lz (?Ty ?dQ) (Ad (Mm (N':=?Hi) (cap:=[none,?e8,?j 3]) (i:=6) ?dQ ?r ?eK ?r ?a7 ?nt (?Sy (?XA 0 Ax9)) (?Sy (Ml (?a1J Ev (?ZP ?GC) ?H))) ?gp) (Ad (Bq ?Qj (Af (Bu ?a0 ?h (?TZ ?e2) (?Uy ?dQ) (Af (Mm (N':=?FL) (cap:=[none,?e8,?j 7,?oh,?j 5]) (i:=6) ?dQ ?r ?eK ?r ?a7 (?TL Bt ?b0) (?Sy (?XA 0 Ay0)) (?Sy (?a1f (?ZS ?Ix ?H) (?ZS (?XC ?B (Ax ?as ?X ?H ?R)) ?Cu))) ?gp)))) Bg) (Ad (?a0j Ev ?mY (?W5 ?im)) (Ad (?Zo ?dQ (?a1S ?aE (?W6 ?b0 ?B ?mY))) (?XO 1 ?dQ (Bc Ju ?B ?mY))))))) (?W5 ?aE)))))),?_];ext Z;cases z;ext z4;let c0:0<=c%4:=?yU;let c1:c%4<4:=?ow;ext f6;(obtain⟨sz,need,hsz,Bm8,C03⟩:∃sz need:Nat,Vo [?cU,?S 2,?S 3,?S 4] (c%4)=?iD/\Vo [?cU,?cU,?cU,?S 2,?S 3] ?ry=?hJ/\((?X3 0 0)\/(?X3 2 0)\/(?X3 3 2)\/(?X3 4 3)):=by let:c%4=0\/c%4=1\/c%4=2\/c%4=3:=?l;rcases this with e | e | e | e<;>rw[e];{show#[0,0,?K,?o8]};{show#[2,0,?K,?o8]};{show#[3,2,?K,?o8]};show#[4,3,?K,?o8]);apply ?P;apply#[?aH,?gb];let s1:?Yn ?C6:=?eB;apply#[?g,?i,?w0,T1,_,?i,?ag,hsz,?_];generalize ?C6=H1 at s1;apply#[?aH,?CR];let s2:?Xy ?L5:=?uO;apply#[?g,T2,_,?i,?ag,Bm8,?_];generalize ?L5=H2 at s2;apply#[?g,?i,?e4,?_];apply#[?aH,λT3 zL=>?_];let s3:?a09 ?sM:=?L zL;let Bo4:?ZM ?sM T3 ?hi:=Ab;generalize ?sM=H3 at s3 Bo4;let NU:?Yn H3:=?u5;apply ?a05 (?Xa (Dn λ ?hP=>σ'=[?x,iS m,?iD,?hJ,rS T3,none,none,none]/\H3=H')) ?t2;apply Ak0 λm0=>?_;intro sq;ext zD;have Co5:?aR:=λk σ G=>SM λ ?hP ?j1 (p:?bP) (o5 o6 o7:?bT)=>Di (σ=(?YU ?au o5 o6)) ?c1 (TI K G v p) (Part xs need p) (p.length=k);apply Ce (lo:=0) (n:=(?ry).toNat) Co5 #[m0,?z T3,[],?gO,?O,NU,?f3 (?n Bo4),?Er,?h] ?_ ?_;{rintro k σ G hk Cl;ext f;revert σ;apply An9 ?_;intro m v p o5 o6 o7 sG tp hP hpl Db;let AD:k<sz:=?l;rw[?Qm];let LZ:=?UU sG;apply ?s (λσ' G'=>Ji λ ?bD ?vn=>Di (σ'=(?YU ?au ?an ?aK)) ?rL ?si ?wy ?pR) ?t ?_;{apply(?X9 a sG.seq hq);have Co4:?aG:=λi ys τ G1=>Di (i<=xs.length) ?o0 ?LO ((∃fs:?bP,ys=?k8/\?Vh i/\?pR)) (?TJ [o,?x,?hJ]);apply X0 Co4 #[?ay,?aV,?Nc,?O] ?_ ?_;{rintro i ys τ G1 hi ⟨_,g1,Dv,⟨fs,rfl,hfl,hfs⟩,o,rfl⟩;let hi2:?Bx:=?l;apply ?U;let#[us',w,B96,hw,tw]:=?cF ?xq (i:=?cC) ?l ?l;apply ?P;rw[?mm]at tw;apply ?U;let#[?b4,hb]:=?e1 tw;apply ?P;apply#[?k,a,us',?i,B96,hw,b,?g,?a1 hb,?g,?h,?g,?_];apply ?UT #[?l,g1,Dv,?Bh,?g];(let h2:?DM=need:=by (let:((?UY ?qx).length:Int)=?lg:=?a5);rw[qa3]at this;ext d);apply#[?g,Dv,?d1,?l,?zZ,Ab,(?X8 ?cC),?g];rcases ?qP hf with q | q;{show hfs f q};(let:f=?cC:=?wd);subst this;apply#[?N,?_];rw[?mm];show h2};rintro ys τ G1 ⟨_,g1,Dv,⟨fs,rfl,hfl,hfs⟩,_⟩;show ?T5 #[D,fs,?h,g1,Dv,?l,hfs]};rintro _ G1 ⟨D1,fs1,rfl,g1,Dv,hf1,Bn1⟩;let tp1:=?C8;apply ?U;let ?AM:=?e1 tp1;apply ?P;apply ?s (λσ' G'=>?UD σ' (0<need->∀f∈fs,∀i:Nat,i<k->?MI)) ?t ?_;{apply ?cB;apply ?av;{(let hn:0<need:=?Ux ?bW ?lg ?a5);apply ?h1;have Co3:?aR:=λi σ G'=>?UD σ (∀f∈fs,∀i':Nat,i'<i->?N4 i' 0=(?bJ (?oK i' 0).toNat []).getD ?f2 0);apply Ce (lo:=0) (n:=(?ak).toNat) Co3 (?Z4 (λf _ i' h=>?l)) ?_ ?_;{rintro i σ G2 hi Cl;ext f;revert σ;apply ?dN;intro D2 Z4 o8 g2 Je hf2 uH XY Db;let hik:i<k:=?l;rw[?f4];let hip:i<p.length:=?l;(let hpi:?vW=p[i]:=by rw[qa1,qa0 hip];rfl);apply ?U;let ?MG:=hP.ok p[i] (qd6 hip);apply ?P;apply(?Tn D2 #[_,?pK]);have Co2:?aG:=λj ys τ G3=>Bv (?p G2 G3) (G3 D=?dk) ((∃fs:?bP,ys=?k8/\?Vh j/\∀f∈fs,f∈Z4/\?MI)) (?TJ [o,?x,?bR,rS av,?an]);apply Qo (K:=K) (a:=D2) (xs:=?rT) Co2 (?Wz ?Nc) (λj ys τ G3 _ hz=>?XI #[g3,_] g3 Je) ?_ ?_;{rintro j x ys τ G3 hx ⟨g3,BG,⟨fs,rfl,hfl,hfs⟩,o,rfl⟩;(let hj:j<Z4.length:=?gE);(let hxv:x=?o ?mM:=?UM ?nU);subst hxv;apply ?U;let#[f0,f1,f2]:=uH ?mM ?xT;let gG3:=?vd;let Bp0:=?a8 gG3 LZ;let#[us4,w4,B95,hw4,tw4]:=?cF Bp0 f0 f1;let#[b4,?h,hb4]:=?e1 tw4;let#[us5,w5,B94,hw5,tw5]:=?cF Bp0 q0 q1;let#[b5,?h,hb5]:=?e1 tw5;apply ?P;let ga:∀{l:?bP}{t:Nat},t<l.length->?Z0 (l.map ?S) ?c4 (l.getD t 0):=λ{l t} h=>?Yw (by rw[qa6,qa0 h,qa1,qa0 h];rfl);let i4:i<(?AU).length:=?l;let k5:?f2<(?Ho).length:=?l;apply#[?k,a,us4,?i,B95,hw4,?g,b4,_,?i,hb4,ga i4,?k,?g,av,_,?i,(?d0).seqT sqv,(by rw[ga hip,hpi]),a,us5,?i,B94,hw5,?g,?i,b5,_,?i,hb5,(by rw[?TD (?Ya (?ak-1) ?f2)];show ga k5),?h,?g,?_];apply ?bF ?lu (λh2=>#[g3,BG,?Bh,?g]);(let h3:(?AU).getD i 0=(?Ho).getD ?f2 0:=?bV);apply#[?g,BG,?d1,g3.turn hD,Ab,(?X8 ?mM),?g];rcases ?qP hf with q | q;{show hfs f q};(let:f=?mM:=?wd);subst this;show#[?xT,by rw[hpi];show h3]};rintro ys τ G3 ⟨g3,BG,⟨fs,rfl,hfl,hfs⟩,_⟩;rw[qa3]at hfl;apply#[D,fs,?g,?d0,BG,?l,λf hf=>uH f (?rE).1,λf hf i' hi'=>?_];cases e:i'<i;{show XY f (?rE).1 i' e};let:i'=i:=?l;subst this;show(?rE).2};rintro σ G2 Cl;revert σ;apply ?dN;intro D2 Z4 o8 g2 Je hf2 uH XY Db;show ?T5 #[D2,Z4,?g,g2,Je,hf2,uH,λ_ f hf i hi=>XY f hf i ?l]};show ?T5 (?Z4 (λhn=>?dB (show ?bW<?lg by ext d) ?a5))};rintro _ G2 ⟨D2,Z4,o8,rfl,g2,Je,hf2,uH,XY⟩;apply(?W9 D2 ?u ?pK);apply ?av;{apply#[?aH,λe1 he1=>(?Wx ?Hn)];let g3:?p G2 ?vU:=?tR;let g4:?p ?vU (?TG ?vU R [?RM,?o m]):=?uC;show kq R ?RM m [] _ (?TM ?zW g3 g4) ?ag (?f3 (?T3 g4 Ab)) ((?Er (need:=0)).fits (size:=0) ?h ?a2)};(let hfl:0<Z4.length:=by rw[qa3]at h1;let:¬Z4.length=0:=λz=>h1 (by rw[z];simp);ext d);let m0':0<=m%?pz:=?LY;let m1':m%?pz<?pz:=?Qt;let#[t,ht]:=qh7 m0';let jR:t<Z4.length:=?l;(let hat:Vo ?rT (m%?GF)=?j ?B7:=by rw[qa3,ht];show ?Yw (?Wb jR));(let xV:?GF=?pz:=by rw[qa3]);apply#[?k,?k,D2,?g,?u ?pK,?i,(by rw[xV];ext d),D2,_,?i,?pK,hat,?aH,?ID];let g3:?p G2 (?TG G2 e1 [?B7]):=?tR;let B40:=(?d0).seqT sqv;apply#[av,e1,?i,B40,?ag,Bl (by rw[qa3];ext aU),λP G4 g4 hP4=>?_];apply#[?k,D2,?g,?Xx (?nM) Je,?i,(by rw[xV];show#[?l,?l]),?_];apply#[_,?z P,p++[Z4[t]],_,_,?g,?zW ?nM,?f3 (by rw[qb2];show hP4),hP.snoc (uH _ ?KP) (λhn i hi=>?_),?vz];rw[hpl];show XY hn _ ?KP i ?l};ext f5;apply An9 ?_;intro m v p o5 o6 o7 sG tp hP hpl Db;ext Si;let g1:?a0b (?TG G R [v,?o m]):=?uC;show kq R v m p _ ?qA ?ag ?C8 (by first | show hP.fits (hpl.trans ?yT) ?jS | show hP.fits hpl ?l)
def Yn:?T7 ?ne ?ne Kk:=Bj
def Yw[?A](F:?Sz ?p1 ?p1 Kk)[?F][?zC]:?Sw 2 ?ne ?Lx:=by apply ?TE Yn;let#[x,d,?b4,hx,k]:=h;apply(?ZV (?a1g ?CU (WN QK P8 Ah ?w ?B)));apply#[?g,x,d,?h,hx,?g,?_];ext zK;{let#[i,?h]:=MZ e;cases ?CM;apply ?cB;apply ?bF ?FN ?FN;{apply ?JK;(let e2:?sC=?ac (i<b):=by exact(?Un b)=_;rw[e1];rfl);rw[e2]at k;show k};(let e2:?X0 ?sC:=by exact(?Un b)=_;simp at e1;ext aU);rw[e2]at k;show k};(let e2:belowD d b=false:=by cases d<;>first | rfl | (exfalso;show e ?h));rw[e2]at k;show k
def bB:?T7 [?ec,?dE,?dM,?bb,?b9] ?hk NS:=Bj
def Ac7[?A](F:?Sz ?lk ?lk NS)[?F][?SL]:?Sw 2 ?hk ?EL:=by apply ?TE bB;let#[a,b,ms,ns,?d8,hb,hm,hn,k]:=h;apply(?ZR (?T1 2 bB.nd ?Gv) (?a0t (?Sx 3 bB.nd (?XA 4 bB.nd)) (?a1D Vh ?Mi)));ext Z;apply#[?g,a,?bM,?d8,?aW];let AU:?l8:=?ug;apply ?Tc b ?gm (by rw[?p4];show hb);apply ?FG;have Co1:?aR:=λi σ H1=>?Zm (Bv ?OQ (H1 b=?VB ?w1) (?gd=?T8 ?CG) ((?W2 ?J5)));apply ?Zs ?gm Co1 (λi σ H1 _ hz=>?BZ);{rw[?jI,Ab];rfl};{intro c q n1 n2 e;rw[?h3,?hU];show e};{rintro i kk x σ H1 p hx Cl hp;ext f;revert σ;apply ?eZ;intro o1 o2 hb1 Dv hk1 Db;let ?cy:=?cE;let npb:b≠p:=Ap hb1 hp;let npD:?s0:=Ap Dv hp;let hlt:?tS:=?fR;apply ?eL;apply#[?k,?g,D,?CG,q.1,q.2,?h,(?V7 npD),?ad];{let:=LU ?PP ms;rw[qc3]at this;ext d};apply#[_,?g,?ad,?uR];{rw[?p4,Aj npb];show hb1};{rw[Ab,tP hq]};rw[?hU,?Wp ?Af hp];show ?Af};rintro σ H1 Cl;revert σ;apply ?eZ;intro o1 o2 hb1 Dv hk1 Db;rw[J7,qc8]at Dv;apply#[hb1,?g,k D _ hD ?jZ ?oW];ext SN;show hk1 c q z ?xS e
def W7:?T7 ?fV ?fV Jp:=Bj
def Xp[?A](F:?Sz ?mK ?mK Jp)[?F][?zB]:?Sw 2 ?fV ?FF:=by apply ?TE W7;let#[a,i,xs,?aQ,B8,k]:=h;let ?Pi:=LT.len hL;let#[_,us',z,hq',r]:=?ff;apply(?a1l (B6 (N':=?Io) (cap:=?sX) ?r ?a7 ?wz (?ZO Am6 Am6) (?Sy (?a1f ?Me ?H)) ?gp));cases z;apply(?Tn a #[us',hq']);(let B97:?V2 us'.length:=?kH);have Co0:?aG:=λj ys τ H1=>Di (j<=us'.length) ?dU ?dG (ys=(P4 xs i j).map ?S) (?Ta [o1,o2,?cg]);apply HB (K:=K) (a:=a) (xs:=us') Co0 #[?ay,?aV,?h,?T,?O] (λj ys τ H1 _ hz=>?Y7 ?Ag ?dV hq') ?_ ?_;{rintro j v ys τ H1 p hv Cl hp;revert τ;apply xN ?_;intro hj s1 Dv hys o1 o2 Db;let hj2:j<us'.length:=?cJ;let hj3:j<xs.length:=?l;let ?Om:=r.getV hv;(let edv:dv=tI ?qL:=by rw[qa6,qa0 hj3]at XX;rw[qa1,qa0 hj3];simpa using XX.symm);subst edv;let sp:?Xy ?Nm:=?bk;apply ?eL;apply#[?g,v,Ek ?qL,?h,?a1 (?a8 ?hD rv),?g,?h,?g,?_];rw[?Tm ?qL ?MH];let hDp:(?Nm) D=?dk:=?q1;(let yl:?a0C j:=by rw[hys,qa3];show Et ..);apply ?fn;{(let h3:?Js:=?bV);apply#[?g,hDp,?bd,?l,?V0 ?hD,?W,_,?g];rw[kY h3,qb2,hys];rfl};(let h3:¬?Js:=?bV);apply#[?l,?hD,hDp,?_,_,?g];rw[QI h3];show hys};rintro ys τ H1 ⟨_,s1,Dv,hys,_⟩;rw[B97]at hys;apply k D H1 hD s1 ?_;rw[Dv,hys];rfl
def Te:?T7 ?qe ?qe Hu:=Bj
def Tu[?A](F:?Sz ?pA ?pA Hu)[?F][?zC]:?Sw 2 ?qe ?zy:=by apply ?TE Te;let#[a,n,f,?h,hq,hn,k]:=h;apply#[_,(?XB (Lr ?xU (?a1g (Js Ev ?dt ?B ?J) (?a1P (?a0f ?gB (?Sy ?CU)))))),?_];apply#[?g,?cm,?h2,dL n f,?h,?rZ,yM hq,?g,?_];apply ?VF (by simp[QX,dL]);apply#[?g,a,?g,?dn,?g,?h,?g,?_];apply ?VF (isI ?sQ);ext ql;have Cn9:?aG:=?XY (?Zt ?R4 ?dW);apply Cs (K:=K) (a:=a) (xs:=VI n f) Cn9 ?bw ?wH ?_ ?_;{rintro i x ys τ H1 hx Cl;revert τ;apply ?az;intro s1 Dv hz1 o Db;subst hz1;let ?yV:=v6 hx;apply#[?g,_,?qT,?K,Dv,?qy,?jN,?W,?g];rw[qv2,qb2];rfl};ext kP;apply#[D,?HK,?h,?ve,?_];rw[?VZ ?HK];show ?gR
def nQ:?T7 ?fq ?fq e9:=Bj
def OB[?A](F:?Sz ?lM ?lM e9)[?F](jF:?T6 ?kq ?p6 ?Jq):?Sw 2 ?fq ?BB:=by apply ?TE nQ;let ?If:=h;apply(?ZQ (B6 (N':=?RC) (cap:=?sN) ?r ?a7 ?GE (?Sy (?XA 0 Az9)) ?aN (?Sy (?XH jF ?CF))));ext qj;have Cn8:?aG:=?XV (?W7 h (λi j=>f j i)) [o,?au];apply ?UO Cn8 ?jB;{rintro i ys τ H1 hi ⟨as,hal,rfl,R,o,rfl⟩;let hi2:i<w:=?l;apply#[?k,v,h,w,i,f,?F4,?Nt,hh,hi2,?s5];show ?tt};ext z3
def ZZ:?T7 ?q5 ?q5 NT:=Bj
def Ac8[?A](F:?Sz ?nA ?nA NT)[?F](DE:?T6 ?p7 ?pv ?Mw):?Sw 2 ?q5 ?Kb:=by apply ?TE ZZ;let#[n,?h,hn,k]:=h;apply(?ZQ (B6 (N':=?Mr) (cap:=?sN) ?r ?a7 ?Ab (?Sy (?XA 0 Az7)) ?aN (?Sy (?XH DE ?CF))));ext qj;have Cn7:?aG:=?XV (?W7 n ?rg) [o,?eh];apply ?UO Cn7 ?jB;{rintro i ys τ H1 hi ⟨as,hal,rfl,R,o,rfl⟩;apply#[?k,n,i,?F4,hn,?s5];show ?tt};ext z3
def Hz:?T7 [?fW,?bK,?be,?dM,?b9,?ca] ?xo Q7:=Bj
def ES[?A](F:?Sz ?l3 ?l3 Q7)[?F][?z7]:?Sw 2 ?xo ?Fy:=by apply ?TE Hz;let#[x,v,h,w,a,f,?h,hx,hv,hh,hw,hm,k]:=h;let(?WC tb):=?fy;apply(?ZR (?T1 3 ?o1 (?a1c ?H)) (Ad (Bu ?a0 ?h (?U6 iL ?iT ?cl) (?Sx 4 ?o1 (?XA 5 ?o1)) (Af (?T1 3 ?o1 (?XH Kq (Aa Ah (Aa ?X ?Pt)))))) ?IB));ext Z;apply ?Sv (Dn λT=>Bv (?Z8 σ' none none) ?Bo ?aP (?XJ T (VI w ?gV)));{apply#[?aH,λl0 hl0=>?_];let s0:?VK H l0 ?ej:=?L hl0;apply#[?g,l0,?i,Ab,?N,?e9,?uW];apply ?T5 #[T,?h,?jy hT,?kG ?s6,?_];rw[Ab,qb8,A70]};apply Pn λT0 H1 hT0 s1 hT1=>?_;intro sq;apply#[?k,x,tb,?h,#[_,?dV hx],#[_,?mi],?_];apply Af7 (K:=K) (a:=x) (b:=tb) (xs:=VI h a) (ys:=us) (n:=h) (by rw[Bz,Xs,qz5]) (?a0Y (Kz λT o1 o2=>Bv (?Z8 σ o1 o2) ?Bo ?eI (?VI T (VI w λj=>sumN (λk=>a k*f k j) i)))) #[T0,?T,?O,hT0,s1,hT1] (λi σ H2 _ hz=>by let#[?I,_,_,s2,_]:=hz;show#[?h4 hx,?h4 hq]) ?_ ?_;{rintro i u v σ H2 pr hu hv Cl hp;revert σ;apply ?hc;intro T o1 o2 hT s2 hT2 Db;let ?yV:=v6 hu;let ?Kf:=Nz i _ hv;let sp:?Y2 pr [?o (a i),?pG]:=?bk;apply ?je;apply#[?k,?g,1,a i,T,b,w,_,?d4,?h,?T3 sp hT2,(?un).seq hb,?l,λj hj=>#[?sn,hm i j hi hj],λD H3 hD s3 BG=>?_];apply#[D,_,?g,?X6 ?un hD,?Tb ?un s3,?_];rw[BG];congr 2;apply U2 λj hj=>?_;exact 1*_+_=sumN _ i+_;rw[qe2]};ext kS;apply ?hc;intro T o1 o2 hT s2 hT2 Db;show#[?g,k T H2 hT s2 hT2]
def Q5:?T7 [?ba,?kn,?b9,"i","face"] ?yK Th:=Bj
def iN[?A](F:?Sz ?m8 ?m8 Th)[?F][?SL]:?Sw 2 ?yK ?Aw:=by apply ?TE Q5;let#[a,v,ms,fs,n,?d8,hv,hm,kq]:=h;let#[af,?h,sq]:=?e1 hv;apply#[_,(Af (Bu ?a0 ?h (?U6 WL ?ok ?bE) (?Sx 3 Q5.nd (?XA 4 Q5.nd)) (Af (Bw (?XH Vh (?a1n (?T4 ?aE (CG (?a0m (?a1r ?X Ah) Ah) ?H (P5 Kg ?H))))))))),?_];have Cn6:?aR:=λi σ H1=>∃o1 o2,σ=?JN/\Qu a H H1/\H1 a=?T8 ?zq;apply#[?g,af,?h,#[_,sq],uM (K:=K) (a:=af) (xs:=?k8) Cn6 #[?T,?O,λ_ _ _ e=>e,ha] (λi σ H1 _ ?Jp=>SqT.x s1 ha sq) ?_ ?_];{rintro i x σ H1 p hx Cl hp;ext f;apply ex2 ?_ Cl;clear Cl;intro o1 o2 Cl;apply Ci6 ?_ Cl;clear Cl;rintro rfl s1 ha1;(let hi:i<fs.length:=?gE);(let hxv:x=?mG:=?yb);subst hxv;let sp:?Xy ?BO:=?bk;let ha2:=?IG;let hl:=j7 ms fs n i;apply ?eL;(let fin:∀m,m=AZ n i->U9 K [?cm,?mG,?o m] ?BO (λv H'=>∃o1 o2,([?x,rS af,?eh,?bR,?j ?mG]:St)=?JN/\Qu a H H'/\H' a=?T8 (Jh ms fs n ?aZ)) E0:=by intro m hm2;subst hm2;apply#[a,?zq,_,?g,ha2,?l,_,?g,λc q n1 e=>?_,Ab];rw[?h3];show ?Uv (s1 c q n1 e));apply#[?k,?g,?i,?rK,?h,?g,?_];apply ?av;{(let h2:?aX%2=0:=?a5);show#[?g,?Vl n ?b5]};(let h2:¬?aX%2=0:=?a5);show#[?k,?Vl (-n) ?ap]};rintro σ H1 ⟨o1,o2,rfl,s1,ha1⟩;rw[qa3]at ha1;show kq H1 s1 ha1
def a9:?T7 [?oO,?de,?dM,"i"] ?x9 BZ:=Bj
def TQ[?A](F:?Sz ?kw ?kw BZ)[?F][?z7]:?Sw 2 ?x9 ?Qq:=by apply ?TE a9;have#[r,u,as,n,W,f,t,?cf,hu,hm,hn,hW,k]:=h;let hq:SqL K H r ?dK:=?n x.2.1;apply#[_,(Ad (?T1 2 a9.nd ?ym) (Ad (?T1 3 a9.nd ?j4) (Ad (Bq ?Lr (?a1i (?a0f (?TL Bt ?gT) ?Q9) ?yG) (Af (Bq ?Lr (Ad (Ni ?CA ?yG) (?a1i ?gT (Nk ?H ?j4 Gw))) (?a1i (?T2 Kq Ah (?ZT ?gT ?j4 (?XD ?CA))) ?yG)))) ?eV))),?_];ext Z;apply#[?g,r,?dK,?h,?dn,λL hL=>?_];let sL:?Yn ?At:=?L hL;generalize hHL:?At=HL at sL;(let hLL:HL L=?j ?wC:=by rw[←hHL];show Ab);let hqL:SqL K HL r ?dK:=?n8 hq;(let fin:∀(i:Nat) (D:Addr) (H1:Hp),i<n->?Ti HL D->?By->?gd=?Zc (VI W (ZS t f i))->(∀r,r≠i->ZS t f r=f r)->H1 L=?j ?wC/\Q ?vJ ?Bw:=by intro i D H1 hi hD s1 h1 he;(let nDL:D≠L:=λz=>by rw[z,hLL]at hD;cases hD);apply#[?YB hLL,?_];let s2:?Yn ?Bw:=?Vw sL.trans s1 hL;apply k L (as.set i D) _ hL s2 (x.made s2 hi Ab (by rw[Aj nDL];show h1) he) ?cP;rcases qr9 ha with ha | rfl;{show#[?hT,λz=>x.there.2 a ha (z▸hL)]};show#[?a1 (sL.free hD),nDL]);cases t with| sw i j=>show hm.elim| mi i =>let hi:i<n:=hm;ext f6;let ?iE:=hu;let ?xE:=rT;let hT1:?UR HL ta [V.str "minus",?S i]:=?H4;let#[b,_,eb,_,hb]:=?AO;ext S0;apply ?L7;apply#[?k,r,_,?i,hqL,Bh eb,?b4,#[_,?OA],?aW];have Cn5:?aG:=λc ys τ H1=>Bv ?By ?dG (ys=VI c (λc=>-(f i c))) ?dW;apply Cs (K:=K) (a:=b) (xs:=VI W ?d4) Cn5 ?bw (λc ys τ H1 _ hz=>by ext gK;show ?dV ?OA) ?_ ?_;{rintro c y ys τ H1 hx Cl;revert τ;apply ?az;intro s1 Dv hz1 o Db;subst hz1;let#[hc,?h]:=v6 hx;apply#[?k,Dv,?iq,?jN,?W,?g];rw[Zz]};ext kP;rw[Bz]at Dv;ext Ru| ad i j m =>ext f6;let#[hi,hj,hij,hm]:=hm;let ?iE:=hu;let ?va:=rT;let hT1:SqT K HL ta [V.str "add",?S i,?S j,?S m]:=?H4;let#[bi,_,ebi,_,hbi]:=?AO;let#[bj,_,ebj,_,hbj]:=?TL x.row hj;ext S0;apply ?yE;apply ?Ko;apply ?yE;apply#[?k,r,_,?i,hqL,Bh ebi,?g,ta,_,?i,hT1,?h,?k,ta,_,?i,hT1,?h,r,_,?i,hqL,Bh ebj,?_];apply#[1,m,bi,bj,W,?d4,?dy,?h,?n8 hbi,?n8 hbj,hW,?Z9 #[?sn,hm c hc],?so];ext Ru
def Ed:?E [?ar,"i","j",?ec,?dE,?hA,"a","b","c","d",?ca,"back"] ?jG ?K6:=Bj
def Tx[?A](F:?Sz ?hZ ?wD Gg)[?F](Im:?T6 ?lU ?hk ?zv)[?z7]:?Sw 2 ?jG ?xC:=by apply ?TE Ed;have#[p,C,r,b,sv,n,W,i,j,A,B,s,N,?h,hC,x,hi,hj,hij,hn,hW,hA,hB,lA,lB,bo,k]:=h;ext S7;have ?Dk:=x.refs;let rb:=x.ne;ext yw;apply#[_,(Ad (?T1 5 ?g9 (?XH Im ?pp)) (Ad (?T1 6 ?g9 ?dJ) (Ad (?T1 7 ?g9 ?dJ) (Ad (?T1 8 ?g9 (?a1O ?aE ?dJ)) (Ad (?T1 9 ?g9 ?Is) (Ad (?T1 10 ?g9 ?e3) (Ad (?a1L ?b0 ?en ?xz) (Ad (?a1L ?cx ?c9 ?re) (Ad (?T1 11 ?g9 ?e3) (Ad (?YR ?c9 (P5 Kg ?cx) ?xz) (Ad (?YR (P5 Kg ?en) ?b0 ?re) ?Hg))))))))))),?_];ext Z;apply ?Sv (Sx λ(L:Addr) (g a c:Int)=>Bv (σ'=[?a4,?cg,iS j,iS A,iS B,?ct,none,none,none,none,none,none]) ?aP (?ZH L ?NK) (?wg A B g a c));{show#[?k,A,B,?h,hA,hB,lA,lB,λL g a c H1 s1 hL sh=>?T5 #[L,g,a,c,?h,s1,hL,sh]]};apply Bd3 λL g a c H1 s1 hL sh=>?_;intro sq;let g0:=sh.pos;let lg:?Lg:=qc1 ?PL lA;ext Sb;let la:?Es:=qc1 sh.la lB;let lc:c.natAbs<L9:=qc1 sh.lb lA;let eB:B.fdiv g=?vD:=?lP;let eA:A.fdiv g=?cZ:=?lP;let lz':?VX ?vD:=?WN lB;(let lz:?VX ?er:=by rw[qd2];show lz');let lu:?VX ?cZ:=?WN lA;let hp1:=?ju;let hr1:=?YB ?iR;have#[ci,_,vI,mci,UH]:=?fp;have#[cj,_,ecj,mcj,hcj]:=?TL ?mP hj;have#[di,_,edi,mdi,hdi]:=?BG;have#[dj,_,edj,mdj,hdj]:=?TL xb.row hj;let mk:∀{u:Int}{k c U:Nat}{f:Lat.Mat},u.natAbs<L9->Lat.Bits n U big f->k<n->c<U->?o4 u (f k c):=λh1 h2 h3 h4=>oJ h1 (h2 _ _ h3 h4);apply ?JD;apply ?JD;apply#[?k,L,_,?i,hL,?h,?i,cb _,?g,?_];apply#[?k,L,_,?i,hL,?h,?i,cb _,?_];apply#[?g,?cc,?g,hp1,?i9,?g,r,_,?i,?n hr1,?ji,?_];apply ?a19 (?Xa (?t4/\H1=H')) (by rw[←eA,←eB];rfl);ext aw;apply ?Sv (Dn λD1=>Lj ?t4 (?Yr H1) (Kp H1 H') (?Yb H1 D1) (H' b=H1 b) (?XJ r ?P8) (?XJ D1 (?a03 a c)));{apply(?VE hp1 hr1 ecj);apply#[a,c,ci,cj,W,?h5,?mS,?h,?dV UH,?dV hcj,hW,?Uq la lc,λD1 H2 Dv s2 h2=>?_];(let nD:D1≠r:=λz=>by rw[z,hr1]at Dv;cases Dv);apply#[?g,?cc,?g,?NW,?i9,?g,r,_,_,i,?K,?Tw hr1,Mo ?ke,?_];show ?T5 #[D1,?h,(?iO s2).l,?Xg s2,Dv,by rw[Aj rb.symm,s2 _ _ ?g4,?g4],Ab,by rw[?lq];show h2]};apply PV λD1 H3 zM kp3 n1 b3 r3 d3=>?_;intro sq;let hp3:=?WZ zM hp1;let kr:?V6 as:=?UK na na;let kb:?V6 bs:=?UK nb nb;let qr:∀{G:Hp}{k:Nat}{c:Addr},?rB->c∈as->SqL K H c ?E1->as[k]?=?j c->SqL K G c ?E1:=λfr hc _ e=>?n (kr fr hc _ (xa.2.2 _ _ e));(let rci:?V5 as ci:=by rw[qa6]at vI;let ?l6:=?js vI;cases e2;show e1);(let rcj:?a0c as cj:=by rw[qa6]at ecj;let ?l6:=?js ecj;cases e2;show e1);(let rdi:?V5 bs di:=by rw[qa6]at edi;let ?l6:=?js edi;cases e2;show e1);(let rdj:?a0c bs dj:=by rw[qa6]at edj;let ?l6:=?js edj;cases e2;show e1);(let D1r:D1≠r:=λz=>by rw[z,hr1]at n1;cases n1);(let D1b:D1≠b:=λz=>by rw[z,?g4]at n1;cases n1);apply ?Sv (Dn λD2=>Lj ?t4 (?Yr H3) ?Q3 (?Yb H3 D2) (H' b=H3 b) (?XJ r ((?P8).set j ?ed)) (?XJ D2 (?a03 ?er ?cZ)));{apply(?VE hp3 r3 (by rw[qo8 hij];show ecj));apply#[?er,?cZ,ci,cj,W,?h5,?mS,?h,qr zM mci UH rci,qr zM mcj hcj rcj,hW,?Uq lz lu,λD2 H4 Je s4 h4=>?_];(let nD:D2≠r:=λz=>by rw[z,r3]at Je;cases Je);apply#[?g,?cc,?g,?xD,?i9,?g,r,_,_,j,?K,?Uw r3,Mo (by rw[ql6,qa3,?fY];show hj),?_];apply ?T5 #[D2,?h,(?iO s4).l,?Xg s4,Je,?_,Ab,by rw[?lq];show h4];(let e3:H3 b=?rA:=by rw[b3];show ?g4);rw[Aj rb.symm,?Uw e3,e3]};apply PV λD2 H5 fr5 kp5 n2 b5 r5 d5=>?_;intro sq;(let e5:H5 b=?rA:=by rw[b5,b3];show ?g4);let A56:=zM.trans fr5;let lY:=?WZ fr5 hp3;(let D2r:D2≠r:=λz=>by rw[z,r3]at n2;cases n2);(let D2b:D2≠b:=λz=>by rw[z,b3,?g4]at n2;cases n2);apply#[?g,?cc,?g,lY,?ka,?g,b,_,?i,?x4,Bh edi,?_];apply Ak (?Xa (?r0/\H5=H')) ?_ ?NQ;ext aw;apply ?Sv (Dn λD3=>Lj ?r0 (?Yr H5) (Kp H5 H') (?Yb H5 D3) (H' r=H5 r) (?XJ b ?Jj) (?XJ D3 (VI n λk=>?cZ*s.2 i k+?qK*s.2 j k)));{apply(?VS lY ?x4 edj);apply#[?cZ,?qK,di,dj,n,s.2 i,s.2 j,?h,?Wu A56,?Wt A56,hn,?Uf lu (by rw[qd2];show lz),λD3 H6 BG s6 h6=>?_];(let nD:D3≠b:=λz=>by rw[z,e5]at BG;cases BG);apply#[?g,?cc,?g,(s6 _ _ lY),?ka,?g,b,_,_,i,?K,s6 _ _ e5,Mo ?of,?_];show ?T5 #[D3,?h,(?iO s6).r,?Xg s6,BG,by rw[Aj rb,s6 _ _ r5,r5],Ab,by rw[?lq];show h6]};apply PV λD3 H7 fr7 kp7 n3 r7 b7 d7=>?_;intro sq;let A55:=A56.trans fr7;let hp7:=?WZ fr7 lY;(let D3r:D3≠r:=λz=>by rw[z,r5]at n3;cases n3);(let D3b:D3≠b:=λz=>by rw[z,e5]at n3;cases n3);apply ?Sv (Dn λD4=>Lj ?r0 (?Yr H7) (Kp H7 H') (?Yb H7 D4) (H' r=H7 r) (?XJ b ((?Jj).set j (?z D4))) (?XJ D4 (VI n λk=>-c*s.2 i k+a*s.2 j k)));{apply(?VS hp7 (?n b7) (by rw[qo8 hij];show edj));apply#[-c,a,di,dj,n,s.2 i,s.2 j,?h,?Wu A55,?Wt A55,hn,?Uf (by rw[qd2];show lc) la,λD4 H8 JR s8 h8=>?_];(let nD:D4≠b:=λz=>by rw[z,b7]at JR;cases JR);apply#[?g,?cc,?g,(s8 _ _ hp7),?ka,?g,b,_,_,j,?K,s8 _ _ b7,Mo (by rw[ql6,qa3,xb.1];show hj),?_];apply ?T5 #[D4,?h,(?iO s8).r,?Xg s8,JR,?_,Ab,by rw[?lq];show h8];let e7:=r7.trans r5;rw[Aj rb,s8 _ _ e7,e7]};apply PV λD4 H9 fr9 kp9 n4 r9 b9 d9=>?_;intro sq;let UL:=A55.trans fr9;(let D4r:D4≠r:=λz=>by rw[z,r7,r5]at n4;cases n4);(let D4b:D4≠b:=λz=>by rw[z,b7]at n4;cases n4);let k19:Kp H1 H9:=(?TM kp3.trans kp5 kp7).trans kp9;let u1:?Ti H D1:=?fM n1;(let iC:∀{G:Hp}{D:Addr},Kp H G->?Ti G D->?dY:=λkp e=>by cases z:H _ with| none=>rfl| some o=>show ?dB e (kp _ (by rw[z];show λq=>by cases q)));let k01:Kp H H1:=?gH s1;let u2:?Fi:=iC ?BX n2;let u3:?Ti H D3:=iC ?ME n3;let u4:?Ti H D4:=iC (?Tb ?ME kp7) n4;ext Sd;(let hL9:?UR H9 L ?NK:=by rcases hL with h | h;{show ?u (by (let hLr:L≠r:=λz=>by rw[z]at h;rcases h with h|⟨_,h⟩<;>rw[hr1]at h<;>cases h);(let hLb:L≠b:=λz=>by rw[z]at h;rcases h with h|⟨_,h⟩<;>rw[?g4]at h<;>cases h);rcases h with h|⟨q,h⟩;{show ?u ?Qz};show ?a1 #[q,?Qz])};show ?a1 h);apply#[?g,k L g a c H9 (?TM ?iO s1 UL) ?AK hL9 sh #[#[dx,fs,?WZ UL hp1,?cK],#[_,xa.two (D1:=D1) (D2:=D2) hi hj hij ?_ (?VT (kr UL ha)) ?_ ?_ ?_,?cP],#[_,xb.two hi hj hij b9 (?VT (kb UL ha)) ?_ ?_ ?_,?cP],rb,x.nr,x.nb,?Wj (x.nn a ha (iC ?AK z))]];{rw[r9,r7,r5]};{exact ?UN D1 i;rw[Lat.blend_row_p hij];show(fr9 _ _ D1r D1b (fr7 _ _ D1r D1b (fr5 _ _ D1r D1b d3)))};{exact ?UN D2 j;rw[Lat.blend_row_q];show(fr9 _ _ D2r D2b (fr7 _ _ D2r D2b d5))};ext Se;{rcases qR ha with ha | rfl | rfl;{show ?y4};{show#[D1r,D1b,nN _ u1]};show#[D2r,D2b,nN _ u2]};{exact ?UB D3 i;rw[Lat.blend_row_p hij];show fr9 _ _ D3r D3b d7};{exact ?UB D4 j;rw[Lat.blend_row_q];show d9};ext Se;rcases qR ha with ha | rfl | rfl;{show ?mb};{show#[D3r,D3b,nN _ u3]};show#[D4r,D4b,nN _ u4]
def b6:?T7 ?dC ?dC Lo:=Bj
def i6[?A](F:?Sz ?bs ?Ej Lo)[?F](dD:?QI):?Sw 2 ?dC ?O0:=by apply ?TE b6;let#[p,dx,r,?b4,hp,k]:=h;apply(?ZR (Bw (Ac0 dD hr ?r ?pt ?w6)) ?Qv);ext Z;apply#[?k,?g,p,dx,?Y,r,?b4,?j7,hp,λH1 fs hfs hH1=>?_];(let hp1:H1 p=?Y9 ?Y fs:=by rw[hH1];show Ab);(let s1:?Yj H H1:=by rw[hH1];ext Sk);(let hl:?Vh 2:=by rw[hfs];show ?Eg);apply#[?ay,?aW];let hDp:p≠D:=Ap hp1 hD;apply#[?g,?ax,?h,by rw[Aj hDp];show hp1,?bG,?mL,?ce];apply k D _ _ ?_ (by rw[hfs]) (?ch (?bS (?dP ?eR))) (?ZB ?FO) Ab;cases z:H D with| none=>rfl| some o=>rw[s1 _ _ ?FO z]at hD;cases hD
def Vz:?T7 [?am,?ey,?N3,?bu] ?s3 Rc:=Bj
def eV[?A](F:?Sz ?mk ?mk Rc)[?F][?z9][?kO]:?Sw 2 ?s3 ?Jd:=by apply ?TE Vz;let(?Wy hok):=h;ext bY;apply#[_,(Ad ?Nq (Ad (O6 (Bu ?a0 ?h ?Jr (?TR Vz.nd) (Ad (?XE (?Zb (?a1D Id ?dc)) (?a1Z P8 ?X (?a1J Bi4 ?X ?dt))) (?a1k (?bN (Nh (Ba Gn (?a1D Fb ?G0) ?B ?J) (Nh (?Zb (?T2 Id ?Fg Ac)) (Ng (?TA Ev ?Fg))))))))) ?aS)),?_];ext Z;apply#[?g,b,?bM,?h,?u hb,?g,?_];apply ?b8;apply ?TH [?x,?bL,?af,none] ?bU;ext aw;apply ?Sv (Dn λo3=>σ'=?He/\?aP);{apply ?Tc b ?bM hb;apply ?xp;let LY:?mV:=?jk;let hLF:?WP ?Dm:=?hH ?lQ hb hL;let ZK:?q H b ?hy b=?mq:=Ab;(let hFk:?W2 (H c=?ci->?q H b ?hy c=?ci):=λc q n e=>?sx);generalize ?Dm=F0 at hLF ZK hFk ⊢;have Cn4:?aR:=?Xb (?a0Q ?He);apply ?a1H Cn4 ?GU (λi σ G _ ?Lp=>by rw[←e];show ZK);{rintro i kk x σ G hx Cl;ext f;revert σ;apply ?bm;intro o3 hz1 Db;subst hz1;let ?cy:=?cE;let#[#[h0,h1],hl,hz]:=hok.part q ?cj;let hat:?wu:=?wI;let dg:DGet F0 b ?gI (?j ?jz):=?Tq ZK;apply#[?g,?gI,?gI,?K,?g,?_];apply ?ma;apply ?cB;apply ?dx;let#[us,VF,Xs]:=LT.len hLF;apply#[?k,a,?aD,?u VF,?i,?g,?_];rw[Xs];apply ?dx;let ?nq:=?cF hLF h0 h1;apply#[?k,a,NB,?i,oS,jE,v2,Ek ?hL,?h,?nH,?g,?h,?g,?_];rw[?Tm ?hL ?sp];apply ?Tx (by rw[hl];simp);apply#[?k,b,?gL,dg,?jz,?jz,?K,?g,?_];apply ?ma;apply#[?k,b,?gL,dg,?h,?g,?_];apply ?Tx (by simpa using hz);show ?t2};rintro σ G Cl;revert σ;apply ?bm;intro o3 hz1 Db;subst hz1;apply#[ZK,?T5 #[?eQ,?jZ]];cases z:c=b;{subst z;rw[hb]at e;cases e;show Ab};rw[?cR];show hFk c q z e};apply vQ λo3 G s=>?_;intro sq;show kq G s
def F4:?T7 [?am,?jd,?ez,?bu,"_law_sign",?hs] ?xt Ox:=Bj
def cN[?A](F:?Sz ?qN ?qN Ox)[?F][?SI]:?Sw 2 ?xt ?K7:=by apply ?TE F4;have(?WA hch):=h;ext bY;apply#[_,(Ad (?T1 2 ?jC Ia) (Ad (?a1M ?jC (Ad (?T1 4 ?jC ?HC) (Af (Bu ?a0 ?h (?TL Rm ?gT) (?Ty ?jC) (Ad (?a1o ?H ?aY (?a01 Cg (?Xi ?H ?aY))) (?XO 4 ?jC (?a01 Gy Ah))))))) (?Wd ?bl))),?_];ext Z;apply ?Sv (?Zj (σ'=[?x,?af,?aK,none,none,none]) ?Ac);ext Sc;apply Pn ?so;let AU:?l8:=?ug;let hb1:=?g2;let hL1:=?dv;apply ?Sv (Kz λo1 o2 o3=>?a0x ?G8 (?Zp ?M5));{apply ?Tc b ?bM hb1;let LY:?mV:=?jk;apply ?xp;apply ?a1H (?Xb (Kz λo1 o2 o3=>?a18 ?G8 ?Lv ?jg)) #[?gO,?O,Ab,?oW,?HR] ?DU;{rintro i kk x σ G hx Cl;revert σ;apply ?hc;intro o1 o2 o3 BE Cu UD Db;apply ?U;let#[q,hq2,?K]:=?cE;apply ?P;let hlt:?hl:=(?eU hq2).1;(let hqd:?j3=q:=by rw[qa1,hq2];rfl);let hat:?wu:=Ef LY ?Ii;let hin:=hch q ?Ii;(let LZ:?OZ:=by (let e1:Qu b H1 ?tB:=?lQ);let l1:=?hH e1 hb1 hL1;(let d1:?ZM ?tB D (.dK ?lX):=?oW);(let e2:Qu D ?tB G:=?D3);show ?Wv ?lX);apply#[?k,b,?gL,?za,?_];apply ?U;let#[us,v,VF,jE,tv]:=?cF LZ hin.1 hin.2;let ?AM:=?e1 tv;apply ?P;(ext Rw);let zl:=iY h4 ms i;(let step:Qz xs ms ?aZ=EJ ?jg ?hL q.2 ?sp:=by exact EJ ?jg ?uD (?j3).2 (?uD).length=_;rw[hqd]);rw[step];apply ?U;obtain⟨fs,hfs⟩:∃fs,fs=?hL:=?c0;apply ?P;rw[←hfs]at sqv hfl ⊢;apply#[?k,a,us,?i,VF,jE,av,?h,#[_,sqv],?_];apply rF (K:=K) (a:=av) (xs:=?k8) (λm σ G2=>Dn λo3=>Ft (σ=[?x,?af,?aK,?jJ,?TB ?ML,o3]) (G2 D=?T8 ?JY) (Qu D G G2)) #[?eQ,Cu,λc r n e=>e] (λm σ G2 _ hz=>by let#[?I,st]:=hz;show SqT.x st Cu sqv) ?_ ?_;{rintro m y σ G2 hy Cl;revert σ;apply Ao6 ?_;intro o3 Je st Db;(let hm2:m<fs.length:=?K2);(let hyv:y=?Hh:=?Xp hm2 hm2);subst hyv;let lz:=IY ?jg fs q.2 m;apply#[?g,D,?h,?V9 ?GT,?g,_,Rz ?GT,?g,An ?JY ?AY,_,?np,?h,?k,D,?g,BH Je ?l,?_];apply#[?g,?i,?j ?Hh,?_,Ab,λc r n e=>by rw[Aj n];show st c r n e];(let:AZ q.2 ?qB=0-?ML:=by unfold AZ;split<;>split<;>ext d);rw[this];rfl};rintro σ G2 Cl;revert σ;apply Ao6 ?_;intro o3 Je st Db;rw[qa3]at Je;show#[_,_,?g,st _ _ AU BE,Je,λc r n1 n2 e=>st c r n2 ?rP]};rintro σ G Cl;revert σ;apply ?hc;intro o1 o2 o3 BE Cu UD Db;rw[J7]at Cu;apply#[BE,?T5 #[o1,o2,?eQ,?jZ,?rw]];cases z:c=b;{subst z;rw[hb]at e;cases e;show Ab};rw[?cR];show ?Hc};apply Aj5 λo1 o2 o3 G sG Cu=>?_;let lz:=iY h4 ms ?Bv;show#[?g,D,?M5,?h,Cu,?l,?PE]
def b8:?T7 [?vb,?Do,?jl,?ez,?bu] ?wn cC:=Bj
def tU[?A](F:?Sz ?pY ?pY cC)[?F][?SI]:?Sw 2 ?wn ?Ig:=by apply ?TE b8;let#[a,b,n,ms,ns,?d8,hb,hm,hn,lm,ln,hmul,kq]:=h;ext bY;apply(?ZR (?T1 3 b8.nd ?Gv) (Ad (O6 (Bu ?a0 ?h ?Jr (?Te b8.nd) (Af (?a1o ?X ?aE (?a1Y (?Xi ?X ?aE) (Bc K4 ?B (?YV ?H ?aE))))))) (?Wd ?dc)));ext Z;apply ?Sv (?Zj (σ'=[?x,?eh,?af,?aK,none]) (?cX=?j ?v2));{show#[?g,a,?g,?hT,?OB]};apply Pn ?so;intro sq;let AU:?l8:=?ug;let hb1:=?g2;apply ?Sv (Dn λo4=>?a0x ?Di (?Zp (IV ms n ns ?da)));{apply ?Tc b ?gm hb1;apply ?FG;have Cn3:?aR:=?Xb (Dn λo4=>?a18 ?Di (G b=?VB ?w1) ?or);apply Qh (d:=b) (o:=o) (kvs:=?gm) Cn3 #[?O,Ab,?oW,?HR] (?TK ?Qw) ?_ ?_;{rintro i kk x σ G hx Cl;ext f;revert σ;apply ?pb;intro o4 BE Cu UD Db;let ?cy:=?cE;let hi:=?fR;(let hqd:?qU=q:=?ES);let hat:?WS ns:=Ef hn ?cj;let lz:=oQ ms n ns i;apply#[?g,D,?h,?V9 ?Q6,?g,_,Rz ?Q6,?k,?g,b,?gL,?za,n,q.2,?K,?Oc,An ?or q.1,n*q.2,?np,?h,?k,D,?g,BH Cu ?l,?_];apply#[?g,?ad,?uR];{rw[?p4];show BE};{rw[Ab];exact ?Wm (putI ?or (?qU).1 (An ?or (?qU).1+n*(?qU).2));rw[hqd]};rw[?hU];show ?rP};rintro σ G Cl;revert σ;apply ?pb;intro o4 BE Cu UD Db;rw[J7]at Cu;apply#[BE,?T5 #[o4,?h,?jZ,?rw]];cases z:c=b;{subst z;rw[hb]at e;cases e;show Ab};rw[?cR];show ?Hc};apply Sy λo4 G sG Cu=>?_;intro sq;let lz:=oQ ms n ns ?da;show#[?g,D,?g,Cu,?l,?PE]
def Cj:?T7 [?jf,?fv,?em,"_law_layer","_law_rows",?dR,"_law_below",?vb,?hs,?QO] ?xc Nf:=Bj
def aT[?A](F:?Sz ?l4 ?l4 Nf)[?F][?SF]:?Sw 2 ?xc ?Q7:=by apply ?TE Cj;let#[l,us,v,ws,?qw,hl,hr0,hv,hw,hlen,k]:=h;ext bY;(let s0w:∀u∈[w],?Ni:=λu hu=>by (let e:u=w:=by simpa using hu);subst e;show hw);apply#[_,(Ad (?T1 3 ?dj (E9 ?bE)) (Ad (?T1 4 ?dj ?eC) (Ad (Bu ?a0 ?h ?lD (?Ty ?dj) (Ad (?T1 4 ?dj (?a01 ?cS ?X)) (Ad (?T1 6 ?dj ?eC) (Ad (Bu ?a0 ?h ?RT ?K9 (Af (Bu ?a0 ?h (?TL Bt (?XH Jd ?KE)) (?XA 8 ?dj) (?ZU (?a13 (?Vc ?cx ?w) (?Vc ?cx ?b0)) (?a0r ?b0 ?E0))))) (?XO 3 ?dj ?b0))))) (Ad (?T1 9 ?dj ?ym) (Ad (?a1h ?O6 ?K9 (?ZU (?Vc ?en ?c9) (?a0r ?c9 ?iM))) (?XB ?c9)))))),?_];ext Z;apply ?OS;let s1:?Yn ?yM:=?L hL0;apply#[?ay,λR0 hR0=>?_];let s2:?p ?yM (?q ?yM R0 ?fz):=?L hR0;apply#[?g,?a2,?a2,Ce (lo:=0) (n:=(4:Int).toNat) (?a0Y (mW λ(L R:Addr) (lu ru:?b1) (?nl rows:LLInt) ?to=>SO (?Ui o9) ?eI (?VI L lu) (?Y4 H2 lu ?wO) (?VI R ru) (?Y4 H2 ru ?MZ) ((∀u∈layer,?Ni)) (Rk ws fam (4-i) ?nl rows=?FP) (layer.length<=4 ^ i) (rows.length<=1000*i))) #[L0,R0,[v],[],[w],[],?gO,?gO,?O,?c3,?BN,?Q5 (?fd ?c3 hv),Ab,?h,s0w,?h,?cq,?cq] ?_ ?_];{rintro i σ H2 hi Cl;ext f;revert σ;apply xP ?_;intro L R lu ru layer rows o5 o6 o7 o8 o9 sH hL rL hR rR hWl hlay xV hrl Db;(let hi4:i<4:=?CX);(let h4i:4 ^ i<=64:=by let:i=0\/i=1\/i=2\/i=3:=?l;rcases this with rfl | rfl | rfl | rfl<;>decide);(let lul:lu.length=layer.length:=by let:=rL.length;ext aF);(ext SE);apply#[?k,L,R,?i,?n hL,?n hR,Bl ?l,λR1 hR1=>?_];let sa:?a09 ?ef:=?L hR1;let Ce3:?ZM ?ef R1 ?Dq:=Ab;(let rRa:?Tz ?ef ?xB ?Nx:=by rw[qb2];show(?OU).append (?aO sa rR));let hLa:=sa _ _ hL;let rLa:?Y4 ?ef lu ?wO:=?OU;let sHa:?Yn ?ef:=?k1 sa;apply#[?ay,?Dn];let sb:?p ?ef (?q ?ef B ?fz):=?L hB;let hBH:?IA:=sHa.free hB;apply#[?g,L,?h,#[_,?T3 sb hLa],?bp (K:=K) (a:=L) (xs:=lu) (λj σ H3=>Kz λ ?w2 (o7 o8:?bT)=>Bv (?Xs o7) (?p ?ef H3) (H3 B=?uw) (?Tz H3 bu ?jo)) #[[],_,?g,sb,Ab,?h] (λj σ H3 _ hz=>?a0Z ?Qi s3 hLa) ?_ ?_];{rintro j x σ H3 hx Cl;ext f;revert σ;apply ?hc;intro bu o7 o8 s3 hB3 rB Db;let hj:j<lu.length:=?fT;let hjl:j<layer.length:=?l;(let hjx:?a0c ?wO (tI ?j6):=?Ev);let ?k9:=rLa.get hjx;rw[hx]at hx';cases hx';let hwj:Gr fam ?j6:=hWl _ ?pS;apply#[?k,x,?j6,fam,?h,?EW,hwj,λp fu H4 hp s4 Sk r4=>?_];let fl:=M0 hwj;(let ful:fu.length=?xN:=by let:=r4.length;ext aF);(let hpB:p≠B:=λz=>by rw[z,hB3]at hp;cases hp);let hB4:=?Uw hB3;apply#[p,?h,#[_,?w3],?bp (K:=K) (a:=p) (xs:=fu) (λm σ H5=>Ji λ ?w2 ?we=>Di (?Xs (?j x)) (?bi B H4 H5) (H5 B=?uw) (?Y4 H5 bu ?LZ) (?BW<=1000)) #[bu,?g,?sd,hB4,(by simpa[D8]using ?aO s4 rB),?_] (λm σ H5 _ hz=>?XW #[?I,s5,_] ?n (s5 _ _ hpB Sk)) ?_ ?_];{let:=?Gb;simp only[List.take_zero,D8,qj9,qc3]at this ⊢;ext d};{rintro m y σ H5 hy Cl;ext f;revert σ;apply Ao4 ?_;intro bu5 o8' s5 hB5 rB5 Cd5 Db;let hm:?DO:=?r8;let hmf:m<?xN:=?l;(let hmy:((?hB).map tI)[m]?=?j (tI ?hB[m]):=?EY);let ?KL:=r4.get hmy;rw[hy]at hy';cases hy';generalize hf:?hB[m]=fc at ty;let ty5:TI K H5 y fc:=TI.t ?Pw ty;(let hl5:H5 l=?e5:=by apply s5 l _ ?o3 (?TY s4 s3 (sHa _ _ hl));rw[z]at hl;rw[hl]at hBH;cases hBH);let rl5:?Xr H5 l ?Gf:=#[l,?aD,?n hl5,Reps.t ?Pw (CZ ws) (?aO (?TM sHa.trans s3 s4) hr0)];let rb5:?Xr H5 B (?y ?LZ):=#[B,bu5,?h,?n hB5,rB5];(let e0:?DW=(if fc ∉ ws/\fc ∉ ?i2 then ?i2++[fc] else ?i2):=by rw[qd9,?ro,hf];show aO _ _ _ _);(let Cd4:bu5.length=?BW:=by let:=rB5.length;ext aF);(let xW:?U1 ?DW 1000:=by let h1:=X3 (ws:=ws) ?zj ?jo;let h2:=?Gb;simp only[qj9,qc3]at h1 h2;(let h3:?xN<=4:=by let:=fl.1;let:=fl.2;split at*<;> ext d);ext d);generalize hacc:?i2=acc at rB5 rb5 e0 Cd4 Cd5;apply#[?k,tI fc,?iw,ty5,?u rl5,?HW,?g,?_];cases h1:fc∈ws;{apply ?LI;apply ?fu;apply ?GO;rw[e0,?ap (by simp[h1])];show rB5};apply ?Dt;apply(?W0 ty5 rb5);cases h2:?BV;{apply ?Tx ?Fp;apply ?GO;rw[e0,?ap (by simp[h2])];show rB5};apply ?VF ?Fp;apply#[?g,?TW hB5,?g,B,?i,hB5,?gQ];apply#[_,?g,s5.upd,?W,xW];rw[e0,?b5 #[h1,h2]];show Il hB5 rB5 ty5};rintro σ H5 Cl;revert σ;apply Ao4 ?_;intro bu5 o8' s5 hB5 rB5 _ Db;apply#[bu5,_,?g,?_,hB5,?_];{show s5.same ?hN hB};rw[ful,qc8]at rB5;rw[qd9,?uu];let e1:?YK (?tl++(?j ?j6).toList)=D8 ws ?jo ?hB:=DY _ _ _ _ _;rw[e1];show rB5};rintro σ H3 Cl;revert σ;apply ?hc;intro bu o7 o8 s3 hB3 rB Db;rw[lul,qc8]at rB;apply ?bq;apply#[B,R1,bu,?xB,?YK ?nl,?Nx,?I,_,?g,sHa.trans s3,hB3,rB,?Y5 Ce3,?aO s3 rRa,?ad,?ad];{intro u hu;rcases Vn _ _ hu with z|⟨t,ht,z⟩;{show ?Pp};show(Ry (hWl t ht) z).1};{rw[←hlay,show 4-i=(4-?aZ)+1 by show Ar.arn13a hi4];rfl};{let:=?Vo ?nl hWl;simp only[qj9]at this;rw[qj2];ext d};rw[qb6];ext d};ext kS;apply xP ?_;intro L R lu ru layer rows o5 o6 o7 o8 o9 sH hL rL hR rR hWl hlay xV hrl Db;let Ob:rows=?FP:=hlay;let Ca6:=OQ (ws:=ws) hw;rw[←Ob]at Ca6;(ext SE);apply#[?g,l,?g,?Xx sH hl,λM hM=>?_];let sm:?a09 (?q H2 M ?hI):=?L hM;let hMH:?E5:=sH.free hM;(let VT:?Tl ws.length:=by let:=hr0.length;ext aF);apply#[?g,R,?h,#[_,?T3 sm hR],?bp (K:=K) (a:=R) (xs:=ru) (λj σ H3=>Ji λ(mu:?b1) ?iJ=>Bv (?Ui (rS M)) (?a09 H3) (H3 M=?Zc mu) (?Tz H3 mu ?hn)) #[us,?g,sm,Ab,(by simpa[Gd]using ?aO (?k1 sm) hr0)] (λj σ H3 _ hz=>?XI #[?I,s3,_] s3 hR) ?_ ?_];{rintro j x σ H3 hx Cl;ext f;revert σ;apply ?eZ;intro mu o7' s3 hM3 rM Db;let hj:j<ru.length:=?fT;let hjl:j<rows.length:=?l;(let hjx:?a0c ?MZ (tI rows[j]):=?Ev);let ?k9:=rR.get hjx;rw[hx]at hx';cases hx';generalize hf:rows[j]=fc at tx;let tx3:TI K H3 x fc:=?EW;(let e0:Gd ws (?Qs ?db)=(if fc∈?hn then ?hn else ?hn++[fc]):=by rw[qd9,?uu,hf];show AO _ _ _);let hal:=ED ?G1 ws;rw[qc3]at hal;(let mul:?Wa ?hn:=?Pa);generalize hacc:?hn=acc at rM e0 hal mul;let rm3:?Xr H3 M (?y ?td):=#[M,mu,?h,?n hM3,rM];apply(?W0 tx3 rm3);cases h1:?BV;{apply ?LI;apply#[mu,?g,s3,hM3,?_];rw[e0,?x8];show rM};apply ?Dt;apply#[?g,?TW hM3,?g,M,?i,hM3,?gQ];apply#[_,?g,s3.turn hM,?W];rw[e0,?v6];show Il hM3 rM tx3};rintro σ H3 Cl;revert σ;apply ?eZ;intro mu o7' s3 hM3 rM Db;rw[rul,qc8,Ob]at rM;show#[?g,k M mu H3 hMH (?k1 s3) hM3 rM]
def Nb:?T7 [?i1,?ly,?am,?dT] ?y8 Oy:=Bj
def CN[?A](F:?Sz ?ns ?ns Oy)[?F](Ru:?T6 ?oz ?xb ?P4):?Sw 2 ?y8 ?Gm:=by apply ?TE Nb;let#[c,ns,m,?fD,hl,kq]:=h;apply(?ZR (?T1 2 Nb.nd ?eC) (Ad (Bu ?a0 ?h (?TL Bt ?ra) (?TR Nb.nd) (?a0r ?H (?XD (?a1d (?a1D Ru ?mz))))) ?eV));ext Z;apply ?Rc;let s1:?Yn ?wY:=?eR;let Dv:(?wY) D=?pB:=Ab;generalize ?wY=H1 at s1 Dv;apply(?WY c ?m3 ?ep);let s2:?Xy ?te:=?gj;let hcl:=Zq ns ?T ?uQ;(let vH:?ZM ?te C (?y (?UY ?BS)):=by rw[←Uu];show Ab);let Je:=?kr;generalize ?te=H2 at s2 vH Je;generalize ?BS=cs at hcl vH;(let hCD:C≠D:=λz=>by subst z;rw[Dv]at hC;cases hC);have Cn2:?aR:=?Xb (Kz λ ?eb ?h7 ?hp=>Ey (σ=[?h0,iS m,?aK,o]) (?bi D H2 G) (G D=?e5) ?EE ?kK (xs.length=i));apply#[C,?h,?D0,?bp (K:=K) (a:=C) (xs:=?um) Cn2 #[[],[],?O,?sd,Je,?h,(λk p h=>by simp at h),?h] (?TK (?Y7 ?Qi ?n (s3 _ _ hCD vH))) ?_ ?_];{rintro i x σ G hx Cl;ext f;revert σ;apply ?dN;intro us xs o s3 Cu rG hsh B8 Db;(let hi:i<cs.length:=?gE);(let hxv:x=?o cs[i]:=?II);subst hxv;(let VT:?p5:=?ti);apply#[?g,?u #[?aB,?fb],?k,D,xs,cs[i],?h,#[D,?aD,?fb,rG],hsh,?l,λR v m' p G1 g1 hR tv hF=>?_];apply#[R,_,?i,hR,?bg];let Bp5:=?ic;apply(?YZ Bp5);show#[?rN,xs++[p],?g,(?fr (?dP g1)).upd,Ab,?Vp Bp5 g1 tv,jB hsh hF,?vz]};ext f5;apply ?dN;intro us xs o s3 Cu rG hsh B8 Db;rw[qa3]at B8;apply#[?g,kq D us G xs hD ?_ Cu rG hsh (?mU B8 hcl)];intro b q e;show s3 b q ?xS (?Z2 ?c3 e)
def Td:?T7 ?iZ ?iZ Ht:=Bj
def Tt[?A](F:?Sz ?pa ?pa Ht)[?F][?SM][?zB]:?Sw 3 ?iZ ?LW:=by apply ?TE Td;let#[a,x,d,l,xs,?aQ,hx,k]:=h;let ?Pi:=LT.len hL;apply(?ZV (Lr (?T2 Fj ?B ?iP) (?Ut Ev (?a1D Hi ?Ka) ?H)));apply#[?k,a,?aD,?dn,x,d,?g,hx,?g,?_];rw[Xs];ext zK;{(obtain⟨i,rfl⟩:∃i,d=?cN:=by cases d<;>first | show ?c0 | (exfalso;simp[belowD]at e));cases ?CM;let e':?Ot:=e;(let h0:0<=i/\i<?g6:=by simpa using e');let#[us',v,hq',hv,tv]:=?cF hL h0.1 h0.2;apply#[?k,a,us',i,v,?K,hq',hv,v,?g,?a1 tv,?g,?bg];(let e2:Eu xs ?cN l=?ac (?pZ=l):=by exact ?BL=_;rw[e'];simp[Ek]);rw[e2]at k;(let e3:?ac (?S ?pZ=?S l)=?ac (?pZ=l):=by cases z:?pZ=l;{simp[z]};simp[z]);rw[e3];show k};(let e2:Eu xs d l=false:=by cases d with| int i =>let e':¬?Ot:=e;exact ?X0 ?BL;rw[Bool.eq_false_iff.mpr e'];rfl| _=>rfl);rw[e2]at k;show k
def bY:?T7 ?oL ?oL Os:=Bj
def cJ[?A](F:?Sz ?qS ?qS Os)[?F][?SM]:?Sw 3 ?oL ?F5:=by apply ?TE bY;let#[i,?b4,h0,h1,k]:=h;apply#[_,(Af (?V8 Fj)),?_];apply#[?k,?cN,?cN,b,?K,?g,?_];rw[show ?sC=true from belowD_of h0 h1];ext qs;show k
def kQ:?T7 ?n3 ?n3 Xd:=Bj
def LF[?A](F:?Sz ?qG ?qG Xd)[?F](Iw:?TF ?pA ?qe ?zy):?Sw 3 ?n3 ?PW:=by apply ?TE kQ;let ?If:=h;let#[S4,MM]:=T.x_MOST_ROWS;let ?y2:=?fy;apply#[_,(Ad (?XE (?Zb ?xU) (Ng (?a1J V2 ?dt (?a14 MM)))) (?a1E (?a1b (?ZX ?gB (?XH Iw ?cl))))),?_];ext Z;apply#[?g,?cm,?h2,dT h w f,?h,?rZ,hv,?g,?_];apply ?Tx (by simp[QX,dT]);apply#[?g,a,?g,?dn,?i,?g,?_];apply ?dx;ext ql;have Cn1:?aG:=?XY (?Zt ?R4 (?TJ [o,iS w]));apply ?Ts Cn1 ?bw ?wH;{rintro i x ys τ H1 hx Cl;revert τ;apply ?az;intro s1 Dv hz1 o Db;subst hz1;let ?m0:=?rd;apply#[?k,b,w,?d4,?h,?th,hw,?tV];apply#[?kr,?qy,?wl,?W,?g];rw[qv2,qb2];rfl};ext kP;apply#[D,?HM,?h,?ve,?_];rw[?VZ ?HM];show ?gR
def NN:?T7 ?ml ?ml c8:=Bj
def NZ[?A](F:?Sz ?mR ?mR c8)[?F](Ui:?TF ?l3 ?xo ?Fy):?Sw 3 ?ml ?Kg:=by apply ?TE NN;let#[u,v,h,d,w,f,g,?h,hu,hv,hh,hd,hw,hm,k]:=h;let ?y2:=J0 hu;apply(?ZQ (B6 (N':=?I7) (cap:=[none,?c8,?hr]) ?r ?a7 ?gB (?Sy (?XA 0 Bj1)) ?aN (?Sy (?XH Ui ?w6))));ext ql;have Cn0:?aG:=?XV (?W7 w (λi j=>sumN (λk=>f i k*g k j) d)) [o,?au,iS w];apply ?Ts Cn0 ?jB (λi ys τ H1 _ hz=>?XW #[as,_,_,R,_] ?dm hq);{rintro i x ys τ H1 hx ⟨as,hal,rfl,R,o,rfl⟩;let ?m0:=?rd;apply#[?k,?g,b,v,d,w,?d4,g,?h,?dm hb,?Nt,hd,hw,λk j hk hj=>hm i k j hi hk hj,?s5];show ?tt};ext z3
def KR:?T7 ?m5 ?m5 Xh:=Bj
private def LH[?A](F:?Sz ?li ?li Xh)[?F][?qi]:?Sw 3 ?m5 ?QY:=by apply ?TE KR;let#[?c2,k,ns,?aQ,B8,hb,hnl,kq]:=h;apply#[_,(?a1V (B6 (N':=?FU) (cap:=?PV) ?r ?a7 (?U6 iL ?iT (Aa ?su ?bl)) (?ZO xB xB) (?Sy (?Yt ?B Ah)) (?Sy (Cw ?cl)))),?_];apply#[?k,a,k,xs,?aQ,B8,λP H1 hP s1 hP1=>?_];let pl:?H1:=?sE;let hnd:=Gh xs k;generalize lX:?jV=sp at hP1 hnl pl hnd kq;let hb1:=?th;let hzn:=mY hnl hnd;(let hzl:?ZL ?ux sp.length:=by rw[List.length_zip];ext d);apply#[?g,P,?b4,(?YF hP1),#[_,hb1],?aW];apply mK (K:=K) (a:=P) (b:=b) (xs:=?Df) (ys:=?ee) (n:=sp.length) (by rw[qa3,qa3];ext d) (λi zs τ G=>Bv ?RB ?Rm ((∃ts:?jD,?Ba/\ts.length=?wf/\?Up ?Ae (G t=?j (?a9 [?ii,?o p.2])))) ?O7) #[?aV,#[[],?K,?AR],?T,?O] (λi zs τ G _ hz=>by let ?kI:=hz;show#[?T3 g hP1,?ix hb1]) ?_ ?_;{rintro i x y zs τ G p hx hy ⟨g,Cu,⟨ts,rfl,jR,hts⟩,o1,o2,rfl⟩ hp;(ext SK);let hz:=MY hnl hi;(let hxv:x=?o ?Fo:=?yb);(let hyv:y=?o ?OV:=?Xp (?TD ?tS) (?TD ?tS));subst hxv hyv;let ct:=gZ hz;generalize ?Fo=sv at hz ct;generalize ?OV=nv at hz ct;let gp:?a0b ?y6:=?bk;let hp1:?ZM ?y6 p ?k0:=Ab;generalize ?y6=G1 at gp hp1;let ctl:?wf<=i:=qa4 (qT _) (by rw[qc3];show ?wm);apply(?U3 p ?vr);apply ?bo;apply ?av;{(let e:¬nv=0:=?a5);rw[?iC]at ct;apply#[?k,?aH,?fh];let gt:=gp.trans (?Ww ?k0 ht);let ntD:?px:=(Ap ?qZ ht).symm;let hDt:=?UV gt;let htt:?ZM ?CH t ?k0:=Ab;generalize ?CH=G2 at gt hDt htt;apply#[hDt,?d1,?Vw ?d6 gt hD,Ab,#[ts++[t],?cq,by rw[ct];simp[jR],?zb],_,?g];rw[ct];rw[List.getElem?_append]at e2;split at e2;{rename_i hj;let ?JZ:=?LE;show(?VR (by rw[qc5 ?l];show jS) gt)};rename_i hj;(ext S2);rw[hj0]at e2;(let et:t=t':=?HY);subst et;apply#[(sv,nv),?ad,ntD];{rw[qc4 ?l,?TD (j-?wf=0)];rfl};rw[Aj ntD];show htt};(let e:nv=0:=?a5);rw[?ie]at ct;rw[ct];show#[?u0,?qZ,#[ts,?h,jR,λj t z=>let #[p',a1,a2,a3]:=hts j t z;#[p',a1,gp _ _ a2,a3]],_,?g]};rintro zs τ G ⟨g,Cu,⟨ts,rfl,jR,hts⟩,_⟩;rw[←hzl,qc8]at jR hts;apply#[D,ts,cK (Dd ?ux),?h,Cu,(by rw[J7];show jR),?Qk,?ex];{let ?Nw:=?Ar;apply#[(?u p.1,?o p.2),?_,h2'];unfold cK;rw[qa6,jS];rfl};apply kq E _ ((?bS g).free hE) (?TM ?bS g ?hV) ?_;rw[Ab,?V4 (Bj4 hzn),qt2]
def EN:?E ?hR ?hR ?OM:=Bj
def V3[?A](F:?Sz ?de ?tq Hf)[?F](Y9:?TF ?kw ?x9 ?Qq)(bF:?T6 ?mJ ?oA ?KS):?Sw 3 ?hR ?rf:=by apply ?TE EN;have#[p,u,C,r,b,sv,n,W,s,N,t,?h,hC,x,hu,m1,m2,hn,hW,k]:=h;ext S7;ext yw;apply(?ZR (?Yv Y9 ?bA) (Af (?a0u (?T2 Y9 ?bA (?XD (?a1D bF ?bE))))));ext Z;apply#[?g,?cc,?g,hp,?i9,?g,r,u,as,n,W,s.1,t,?h,xa,hu,m1,hn,hW,λD1 as1 H1 Dv s1 x1 n1=>?_];let hp1:=?ju;apply#[?g,?cc,?h,hp1,?fl,?wJ,?ce];let sx1:?Yj H ?hM:=?YN s1;let Bf7:?Yj H1 ?hM:=?d5;(let hu1:Rep K ?hM u (ZN t):=by apply Rep.t #[λb xs e=>?_,λb o u e=>?_] (by cases t<;>rfl) hu;{show ?Hb};show ?Hb);let hl1:?G5=fs.length:=P0 l1;let hp2:?ZM ?hM p ?DD:=Ab;let x2:=x1.x hp1 Bf7;let zP:=xb.x hp sx1;(let fr2:?Yp (?hM) ?gn:=λa e=>by cases hap:a=p;{rw[hap,Ab]at e;cases e};rw[Aj hap]at e;show ?fM e);generalize hH2:?hM=H2 at sx1 Bf7 hu1 hp2 x2 zP fr2;apply#[?g,p,C,dx,_,?g,hp2,?fl,?p9,?zf,?g,u,t,?h,hu1,λu2 H3 s3 hu3=>?_];apply#[b,u2,bs,n,n,s.2,tnA t,?h,?rq s3,hu3,m2,hn,hn,λD2 bs2 H4 Je s4 x4 n4=>?_];let VE:=?hN;let Sk:=VE _ _ hp2;apply#[?g,p,C,dx,?g,Sk,?fl,?p9,?ce];let hl2:(?Vu ?eA D2 ?NH).length=?G5:=P0 (x:=?pG) ?zf;let sx5:?Yj H4 (?U0 H4 C (?bH ?eA ?ed ?Kd)):=?d5;let f2:?Fi:=fr2 _ (?oI Je);let dne:D1≠D2:=λz=>?FW ?RZ;ext Sd;apply k D1 D2 _ (?ch (sx1.trans (?dP VE))) Dv f2 #[#[dx,_,?W,?ad,?ht,?l],#[as1,(x2.same VE).x Sk sx5,?cP],#[bs2,x4.x Sk sx5,?cP],dne,nN _ Dv,nN _ f2,?lC];{rw[As,?hd,As,?c7]};{rw[As,?c7]};{rw[As,?hd,As,?hd];show l3};{rw[As,?dI,As,?dI];show l4 m hm};{let h1:=(x2.same s3).there.2 a ha;let ?Qg:=n1 a ha;apply#[h3,λz=>h1 ?RZ,?_];rcases h2 with h2 | h2;{show(na a h2).2.2};show nN a h2};{let ?Qg:=n4 a ha;apply#[?o3,h3,?_];{rcases h2 with h2 | h2;{show ?vI a h2 (z▸Dv)};show ?FW (z▸h2)};rcases h2 with h2 | h2;{show(nb a h2).2.2};show nN a (fr2 _ (?oI h2))};cases hap:a=p;{rw[hap,Ab]at z;cases z};rw[Aj hap]at z;show x.nn a ha (fr2 _ (VE.free z))
def BY:?T7 ?lx ?lx Ot:=Bj
def CJ[?A](F:?Sz ?bs ?Qh Ot)[?F][?SB][?Sl]:?Sw 3 ?lx ?D2:=by apply ?TE BY;let#[H0,p,dx,v,n,w,M,?h,s0,fp,hp,hv,hn,hw,k]:=h;let#[ta,?aD,hq0,Xs,_]:=?fy;apply#[_,(Ad ?Cp (Ad ?Eh (Ad (?Zk ?PF ?PF) (Ad (?Zk ?MW ?MW) ?Qv)))),?_];ext Z;(let mkL:∀{G1 G2 G3:Hp}{D1 D2 L jI:Addr}{as1 PK:?jD}{m:Nat}{fs:?wr}{G4:Hp}{N:Addr->Prop},as1.length=m->?dO G1 G2 D1 as1 m ?rg->PK.length=m->?dO G2 G3 D2 PK m ?rg->?Ti G3 L->?p G3 ?Mx->fs=?bH ?eA ?ed ?E7->G4=?q (?q ?Mx L (?W8 ?E7)) L ?GN->(∀a,N a->?Wg G1) → ?zm/\LX G4 ?M L D1 D2 ?T m m ?eE N:=by intro G1 G2 G3 D1 D2 L jI as1 PK m fs G4 N hl1 R1 hl2 R2 nL sN hfs hG4 hN;(let hL4:G4 L=?j ?GN:=by rw[hG4];show Ab);(let st:?zm:=λa o e=>by rw[hG4,Aj ?tC,Aj ?tC];show sN _ _ e);clear hG4;(let x1:TA G4 D1 as1 m m ?hE:=((?Pr).same (?nV st)).congr ?BP);(let x2:TA G4 D2 PK m m ?hE:=((TA.of R2 hl2).same st).congr ?BP);let t1:=(?Pr).there;let f2:?Yp G2 ?DI:=?VN ?uS;let nN:∀a,?DI->?qX:=?VY hN;apply#[st,#[jI,fs,hL4,?tZ,?tZ,?tZ,?ht,?_],#[as1,x1,?cP],#[PK,x2,?cP],λz=>t1.1 ?EQ,nN _ ?nm,nN _ (f2 _ ?q0),?Wj (hN a ha (f2 _ (?nc (st.free z))))];{rw[hfs,As,?dI,As,?dI];rfl};{rw[hfs];show ?Dx};{let ?ls:=?la;let ?nu:=R1.row i _ ?bc;show#[z2,λz=>t1.2 _ ha ?EQ,?R2]};let ?ls:=?la;let ?nu:=R2.row i _ ?bc;show#[λz=>t1.1 ?Bi,z2,nN _ (f2 _ z1)]);apply#[?k,?b2,?g,hp,?b6,?sa,?gP];apply E7 (?Xa (?lT/\?U0 H ?V ?NM=H')) ?_ ?dD;rintro _ _ ⟨rfl,rfl⟩;apply ?Sv (?lT/\∃fs,fs=?bH ?be ?RL ?NM/\?wt/\?Dg);{apply#[?k,?b2,?g,Ab,?b6,?nB,?Ia,?_];show ?T5 #[?h,?g,Ab,?ch ?d5]};ext zM;let#[Z4,hf2,hp2,sx2]:=jT;(let l2:Z4.length<=2:=by rw[hf2];show ?Eg);let nV:?p H0 H2:=?H0 s0 fp;apply ?Sv (?lT/\∃(L O1 O2:Addr) (fs:?wr),fs=?bH ?hC ?vJ Z4/\?wt/\?Yj H2 H'/\Kp H2 H'/\p≠L/\?Yb H2 L/\?Yb H2 O1/\?Yb H2 O2/\?Xe H' ?qC);{apply#[?g,ta,?aD,?u (nV.seq hq0),n,?xa,?l,λO1 os1 G1 hl1 R1=>?_];apply#[?g,ta,?aD,?u ((?MB R1.same).seq hq0),n,?xa,?l,λO2 os2 G2 hl2 R2=>?_];let s2:=R1.same.trans ?gw;intro L dl nL ndl B61;let sN:?Vr ?DG L:=?Ay nL;apply(?WH L O1 O2);let ?Fe:=?UL nL;let Sk:=?Z7 ?E2;let npL:p≠L:=Ap ?E2 nL;apply#[?g,?b2,?g,Sk,?gM,?ce];show ?T5 #[?h,L,O1,O2,?g,Ab,?YN ?iQ,?Xg ?iQ,npL,?fO nL,?nm,?uS ?q0,lx.x Sk npL ?d5 ?cY]};apply Gm λH3 jT=>?_;intro sq;let#[L,O1,O2,fs3,hf3,hp3,sx3,kp3,npL,nL,n1,n2,lx3]:=jT;(let l3:fs3.length<=3:=by rw[hf3];show ?Yc (qh2 l2));let NU:?p H0 H3:=sx3.same nV fp;apply ?Sv (?lT/\∃(R O3 O4:Addr) (fs:?wr),fs=?bH ?fx (?z R) fs3/\?wt/\?O9/\?Q3/\p≠R/\?Yb H3 R/\?Yb H3 O3/\?Yb H3 O4/\?Xe H' (λa=>?Pv)/\?Yl H' ?qC);{apply#[?g,w,?h,?l,λO1' os1 G1 hl1 R1=>?_];apply#[?g,w,?h,?l,λO2' os2 G2 hl2 R2=>?_];let s2:=R1.same.trans ?gw;intro R dl nR ndl B61;let sN:?Vr (.own R) R:=?Ay nR;apply(?WH R O1' O2');let ?Fe:=?UL nR;let Sk:=?Z7 ?Ge;let npR:p≠R:=Ap ?Ge nR;let n4:?Ti H3 O2':=?uS ?q0;apply#[?g,?b2,?g,Sk,?b6,?jx,?ce];(let y1:?Xe G4 (λa=>a=O1'\/a=O2'):=lx3.more ?iQ (?VT (?a1 (by rcases ha with rfl | rfl;show R1.free;show n4))) λa ha=>by rcases ha with rfl | rfl;{let ?i0:=lx.rw;show ?Gc};let ?i0:=lx.bk;show ?Gc);show ?T5 #[?h,R,O1',O2',?g,Ab,?YN ?iQ,?Xg ?iQ,npR,?fO nR,?nm,n4,y1.x Sk npL ?d5 ?cY,lx.x Sk npR ?d5 ?cY]};apply Gm λH4 jT=>?_;intro sq;let#[R,O3,O4,fs4,hf4,Sk,sx4,kp4,npR,nR,n3,n4,lx4,ly4]:=jT;(let l4:fs4.length<=4:=by rw[hf4];show ?Yc (qh2 l3));let MW:?D8:=?Fb NU fp;apply#[?ay,λnm hnm=>?_];let sn:?p H4 ?Bt:=?L hnm;let A37:?q H4 nm ?fz nm=?pB:=Ab;let lY:=sn _ _ Sk;generalize ?Bt=H5 at sn A37 lY;apply#[?g,?b2,?g,lY,?fC,?ce];(let ex:∀a,?Qy->?Wg H5:=?VT (by ext zL;{rw[A37];show ?kD};{let ?i0:=ly4.rw;show ?IN};let ?i0:=ly4.bk;show ?IN));let z1:?Xe H5 (λa=>?Qy):=lx4.more sn (?VT (ha.elim (λe=>?a1 (e▸hnm)) ?u)) ex;let z2:?Yl H5 ?jh:=ly4.more sn (?VT (?a1 (ha▸hnm))) λa ha=>ex a ?hT;let jX:?Yj H5 ?MY:=?d5;let s06:?p H0 ?MY:=jX.same (?Or sn) fp;let g2:?Yq ?C1:=?VN nV.free;let g3:?Yq ?OO:=?zc;let npn:p≠nm:=Ap Sk hnm;(let LR:L≠R:=λz=>by let ?J0:=lx3.ob;rw[z,nR]at q;cases q);apply k L R nm _ #[#[?jW,dx,_,?W,?ad,?ad,?ht,?_,λM' e=>by cases e;show ?a8 (λa o e=>by rw[DC (Ap e ?AI)];show s06 _ _ e) hv],#[O1,O2,O3,O4,z1.x lY npL jX ?cY,z2.x lY npR jX ?cY,g2 _ n1,g2 _ n2,g3 _ n3,g3 _ n4],by rw[Aj ?Qa];show A37,s06,#[fp,g2 _ nL,g3 _ nR,?AI],?Ci,#[hn,hw]];ext Rx;ext Rx;{rw[hf4,hf3];(ext bB)};{rw[hf4];(ext bB)};ext i4;{rw[hf4,hf3,hf2];(iterate 5 ext SU);rfl};show ?Yc ?l
def Fk:?T7 [?ah,?vV,?fH,"parts",?uv,?nI,?lB,?mE,?bb,?b9] ?sv Xa:=Bj
def LD[?A](F:?Sz ?lF ?lF Xa)[?F][?yy]:?Sw 3 ?sv ?HE:=by apply ?TE Fk;have#[?c2,us,ls,?aQ,B8,hb,hB,hok,kq]:=h;have#[_,xu,z,hq,r]:=?ff;apply#[_,(Ad (Mm (N':=?hY) (cap:=?ck) (i:=2) ?eq ?r ?eK ?r ?a7 ?gB (?Sy (?XA 0 Az1)) ?aN (λ_ _ _ _=>Ia)) (Ad (Bu ?a0 ?h ?iY (?TR ?eq) (Af (Bu ?a0 ?h ?RT (?Zd (?Te ?eq) (?a0z (?Ty ?eq) (?VV ?eq) (?Uy ?eq))) (?ZU (?TA Ev ?aE) (Af (O6 (Bu ?a0 ?h (Nj ?b0) (?Sx 8 ?eq (?XA 9 ?eq)) (?a1i (?a1D Zb (?a0d (?XC ?H ?cx) (?T2 Rp ?c9 ?iM))) (Nk ?H ?cx Gw))))))))) ?eV)),?_];ext Z;cases z;(let xul:?R6:=?kH);apply ?Sv (Ji λ ?bD ?go=>Di (σ'=[?x,?af,?aK,none,none,none,none,none,none,none]) ?aP ?dY ?zo (?Yu H' (?c5 ?dZ [])));{apply ?Rb;have Cm9:?aG:=λi ws τ G=>Bv ?c1 ?y3 (?Yu G (?c5 i [])) ?dW;apply Cs (K:=K) (a:=a) (xs:=xu) Cm9 (?Wz #[?h,λi v e=>?k4]) (?Uj ?ix hq) ?_ ?_;{rintro i x ws τ G hx Cl;revert τ;apply ?az;intro g Cu dd o Db;let hi:i<xu.length:=?fT;(let wl:ws.length=i:=by let:=dd.1;rwa [qj4]at this);apply ?ex;let g1:?a0b ?Gz:=?hV;apply#[?ic,?bd,?vK hD,?W,?g];rw[qv2];apply Fy.keep (H:=?Gz) (?FV (?jF hE) Ab) ?Oe;rw[?ha];{show e};rw[z,?ic]at e;cases e};rintro ws τ G ⟨g,Cu,dd,_⟩;rw[xul]at dd;show ?T5 #[D,ws,?h,g,hD,Cu,dd]};apply Aj7 λD ws H1 s1 nD hD dd=>?_;intro sq;apply ?Sv (MX λ ?go ?AD=>Bv (σ'=?A8) ?aP ?zo (?Yu H' ?fg));{apply#[?g,?b4,(?YF ?g2),?_];have Cm8:?aR:=?Xb (MX λ ?go ?AD=>Di (σ=?A8) ?c1 ?y3 (Fy H G ws ?lE) (Ij ?dZ ?lE));apply ?bp (K:=K) (a:=b) (xs:=us) Cm8 #[ws,?I,?I,?g,s1,hD,dd,Ij.first _] (?TK (?Y7 ?Lw ?n ?Lk)) ?_ ?_;{rintro i v σ G hv Cl;ext f;revert σ;apply An6 ?_;intro ws o1 o2 o3 o4 o5 o6 o7 g Cu dd iW Db;let hi:=?cJ;let h0:=hB.1;apply ?U;obtain⟨ps,hps⟩:?vS:=?fe;let ?OG:=?E4;apply ?P;let pok:=hok ps (qa9 hps);let pl:=rP.len;(let oZ:?Wr ?aZ=L7 ?lE ps:=by unfold liftsB;rw[qd9,hps,qr1];rfl);generalize ?lE=lf at dd iW oZ;apply#[?g,pa,?h,(?YF ?st),?_];have Cm7:?aR:=λj σ G=>Ex7 λ ?go (o2 o3 o4 o5 o6 o7:?bT)=>Di (σ=(?YQ ?pP)) ?c1 ?y3 (?Yu G ?lO) (Ij ?dZ ?lO);apply ?bp (K:=K) (a:=pa) (xs:=pu) Cm7 ?Mq (?TK (?XW #[?I,?I,_,_,g,_] ?n ?st)) ?_ ?_;{rintro j v σ G hv Cl;ext f;revert σ;apply An7 ?_;intro ws o2 o3 o4 o5 o6 o7 g Cu dd iW Db;apply ?U;let ?Ic:=rP.get hv;let#[?dh,?iA,nec]:=?ut g;apply ?P;let pk:=pok p ?u2;(let ejk:L7 lf (?k5 ?db)=T9 ?lO p:=by unfold L7;rw[qd9,hp,qr1];rfl);generalize ?lO=lg at dd iW ejk;(let e20:∃kvs,H c2=?j (.dK kvs):=by have#[t',_,c2',_,q1,q2,_,q4,_]:=pv;cases q1;let:=?a0L q2;rw[et]at this;ext qq;ext qq;injection this with _ this;injection this with _ this;ext qq;ext qq;show#[_,by rw[this];show q4]);apply ?vp;apply ?bo;apply ?av;{(let h1:?oS:=?a5);let eP:T9 lg p=p.2.2.1.foldl ?vw lg:=?x8;rw[eP]at ejk;(let nDc:c2≠D:=λz=>by rw[z,Cu]at e2;cases e2);apply ?Tc c2 ?mw e2;apply(?VC c2 ?mw);have Cm6:?aR:=λm σ G2=>Kz λ ?go (o6 o7:?bT)=>Ey (σ=[?x,?af,?aK,?pP,?j ?ii,?m6,?pI,?ps,o6,o7]) (G2 c2=?VB (.dK ?mw)) (G2 D=?iH) (?Yu G2 ?oG) (Ij ?dZ ?oG) ((∀c q,c≠c2->?gz->?tb->G2 c=?ci));apply Vi (d:=c2) (o:=o) (kvs:=?mw) Cm6 #[ws,_,?g,Ab,?ZA nDc.symm,?_,iW,λc q n1 _ e=>?F0] ?DU ?_ ?_;{apply ?PN;rw[?ha];{show e};let#[_,q]:=e20;rw[z,q]at e0;cases e0};{rintro m kk x σ G2 pp hx Cl hpp;ext f;revert σ;apply ?dN;intro ws o6 o7 hc2 MA dd iW hk Db;apply ?U;let ?cy:=?cE;let#[x0,x1]:=pk.gk q ?cj;apply ?P;(let emk:?We ?qB=lift1 ?uq ?oG q:=by rw[qd9,hq,qr1];rfl);generalize ?oG=lh at dd iW emk;let wl:?V2 ws.length:=dd.1.trans iW.1;let tG:?Vs G2 G2 pp:=?L hpp;apply ?I1;apply ?U;obtain⟨v,hv⟩:∃v,ws[?dw]?=?au:=#[_,qa0 (?c6 wl ?pn)];let#[c,?h,nc,hc]:=?sZ;apply ?P;(let hat:Vo ws q.1=?j ?xW:=?Lh);(let nc3:c3≠D:=λz=>by rw[z,Cu]at e3;cases e3);let e33:=tG _ _ (hk _ _ nec.symm nc3 e3);let lc:=iW.at ?dw;apply#[?k,D,ws,?i,?T3 tG MA,hat,?k,q.2,c3,?uq,?h,e33,?Tu pk.fl.len,pk.mul q ?cj,?zd];apply#[c,T,_,?g,?ZJ hc,hT,?Tu lc.len,?Tu ((pk.fl.times q.2).len),λE G5 nE s5 hE=>?_];let s15:=?Tb ?gt s5;apply#[?k,D,ws,?i,?HP,by rw[wl];let:=Mo (l:=xs.length) (i:=?dw) ?pn;ext z8,?_];apply#[_,_,?g,?_,Ab,emk▸ ?_,emk▸iW.lift1 pk.fl q,λd r n1 n2 e=>?_];{rw[Aj nDc];show ?WM hc2};{apply Fy.keep (H:=G5) ((dd.same s15).set ?_ hE ?dw) λd kvs _ e=>?_;{cases e:H E with| none=>rfl| some r =>let:=?Z2 ?gt (hk E r (?Wo hc2).symm (?Wo MA).symm ?wo);rw[nE]at this;cases this};rw[?ha];{show e};rw[z,?HP]at e;cases e};rw[?hU];show ?WM (hk d r n1 n2 e)};rintro σ G2 Cl;revert σ;apply ?dN;intro ws o6 o7 hc2 MA dd iW hk Db;rw[J7,qc8,←ejk]at dd iW;apply#[hc2,ws,?I,_,_,?g,?Ro,by rw[Aj nDc.symm];show MA,?PN,iW];{cases z:c=c2;{subst z;let:=?wo;rw[e2]at this;cases this;show Ab};rw[?cR];show hk c r z (Ap e nD) ?wo};rw[?ha];{show e};rw[z,hc2]at e;cases e};(let h1:¬?oS:=?a5);let eP:T9 lg p=lg:=?v6;rw[←ejk.trans eP]at dd iW;show ?Mq};rintro σ G Cl;revert σ;apply An7 ?_;intro ws o2 o3 o4 o5 o6 o7 g Cu dd iW Db;rw[pl,qc8,←oZ]at dd iW;show#[ws,?I,?I,?g,g,Cu,dd,iW]};rintro σ G Cl;revert σ;apply An6 ?_;intro ws o1 o2 o3 o4 o5 o6 o7 g Cu dd iW Db;rw[hB.1,qc8]at dd;show ?T5 #[ws,?I,?I,?g,g,Cu,dd]};apply Bc9 λws o1 o2 o3 o4 o5 o6 o7 H2 s2 Je dd=>?_;intro sq;show#[?g,kq D ws H2 nD s2 Je dd]
def M7:?T7 [?fH,?ba,?dM,?bb,?b9] ?vg d6:=Bj
def OA[?A](F:?Sz ?nd ?nd d6)[?F][?yy]:?Sw 3 ?vg ?DC:=by apply ?TE M7;let#[a,b,O,xs,k,wu,lf,c,?d8,dd,sO,nb,hb,hc,xV,B8,hl,kq]:=h;let hwl:wu.length=lf.length:=dd.1;apply(?ZR (?T1 2 ?my Ia) (Ad (O6 (Bu ?a0 ?h ?oQ (?Sx 3 ?my (?XA 4 ?my)) (Af (?a1a 2 ?my (?a1D Zb (?a0d ?H (?T2 Rp ?aE ?G0))))))) ?eV));ext Z;apply ?Sv (?Zj (?Xt ?x ?af ?aK) (?cX=?XN (Jx lf (c.take 0))));ext Sc;apply Pn λD0 H1 nD s1 Dv=>?_;intro sq;(let AU:D0≠b:=λz=>by rw[z,hb]at nD;cases nD);apply ?Sv (Kz λ ?il ?qD=>Bv (σ'=?Rq) ?iS ?aP (?Zn E (Jx lf c)));{apply ?Tc b ?lL ?g2;apply(?VC b ?lL);have Cm5:?aR:=?Xb (Kz λ ?il ?qD=>Ey (σ=?Rq) (E≠b) ?iS (G b=?VB (.dK ?lL)) (?Zz E ?HA) ((∀d q,d≠b->H d=?ci->G d=?ci)));apply Vi (d:=b) (o:=o) (kvs:=?lL) Cm5 #[D0,?T,?O,AU,nD,Ab,?FC,λd q n e=>by rw[Aj n];show ?hf] (?TK (?Xn #[?I,?I,e,_])) ?_ ?_;{rintro i kk x σ G pp hx Cl hpp;ext f;revert σ;apply ?dN;intro E o3 o4 nE hE0 BE BF hk Db;let ?cy:=?cE;let hqm:=?cj;let#[x0,x1,_]:=Cn (hc.key q hqm);let#[lk,lm]:=hl q hqm;let tG:?Vs G G pp:=?L hpp;apply ?I1;obtain⟨v,hv⟩:∃v,?Vk ?dw:=(?UQ (?c6 xV ?pn));let ?Fz:=?sZ;(let hat:Vo wu q.1=?VA c1:=?Lh);let ne1:c1≠b:=Ap hc1 nb;let nea:a≠b:=Ap ha nb;let A41:=?Vx ne1 hc1;let haG:=?Vx nea ha;let hch:ChL xs (k+1) ?HA:=Y4 (λp hp=>(hl p (qn4 hp)).1) ?EA;apply#[?k,?k,a,wu,?i,?n haG,hat,q.2,c1,?oZ ?dw [],?h,A41,?Tu lk.ok.len,lm,?zd];apply#[E,T,_,?g,?ZJ BF,hT,?Tu hch.ok.len,?Tu ((lk.ok.times q.2).len),λE2 G5 nE2 s5 ZL=>?_];let s15:=?Tb ?gt s5;let kT:=?gt;(let neb:E2≠b:=λz=>by rw[z,kT _ _ BE]at nE2;cases nE2);apply#[E2,_,?g,neb,?_,?WM BE,?_,λd r n e=>?WM (hk d r n e)];{cases e:H E2 with| none=>rfl| some r=>rw[kT _ _ (hk _ _ neb e)]at nE2;cases nE2};rw[ZL,OO hq]};rintro σ G Cl;revert σ;apply ?dN;intro E o3 o4 nE hE0 BE BF hk Db;rw[J7,qc8]at BF;apply#[BE,?T5 #[E,o3,o4,?h,hE0,?KI,by rw[Aj nE];show BF]];cases z:d=b;{subst z;rw[hb]at e;cases e;show Ab};rw[?cR];show hk d q z e};apply vP λE o3 o4 H2 nE s2 hE=>?_;intro sq;show#[?g,kq E H2 nE s2 hE]
def IF:?T7 ?lS ?lS Tl:=Bj
def iQ[?A](F:?Sz ?kc ?kc Tl)[?F][?yz][?z9]:?Sw 3 ?lS ?Jt:=by apply ?TE IF;let#[a,t,c1,c2,c3,xs,k,last,p,?aQ,?iA,ho,lo,kq]:=h;ext bY;let hn1:=ho.n1;let hnn:=ho.nn;apply#[_,(Ad (?a0g (?bN (Nh (?TP Zs ?H ?yh) (?a1Z Gn ?eo (?Zb (?a1D Id ?pQ)))))) (Ad (?XE ?MK (?a1Z Ev ?bx (?a13 ?Fs (?TA Gn ?bx)))) (Ad (?a0g (?XZ ?Qj Gn (?a1r ?bx ?X))) (Ad (?XE ?O2 (Ng ?O2)) (?XB (?a1g (?T2 Eh ?w (Aa ?mo ?pQ)) (Al9 (Js V2 ?bx Ah ?J) (?Ut ?OL ?bx Ia)))))))),?_];ext Z;ext z1;{apply(?V1 t et);apply ?b8;apply(?W9 t ?a1 ?i3);apply ?fu;apply#[?g,t,_,?i,?fB,?ii,?ii,?K,?g,?_];apply ?ma;show ?bC};ext aw;ext z1;{apply#[?g,t,_,?i,?fB,?i,?g,?_];apply ?dx;apply ?is;apply ?Tx (by simpa using hn1);apply ?bo;apply ?av;{(let h1:last=0:=?a5);apply ?is;apply ?Tx (by rw[lo.l1 h1];simp);show ?bC};show ?bC};ext aw;ext z1;{apply ?cB;apply ?av;{(let h1:0<last:=?a5);apply#[?g,t,_,?i,?fB,?g,?i,h1,?h,?g,?_];apply ?Tx (by exact ¬(! ?YC (p.1%last))=true;rw[lo.l2 h1];simp);show ?bC};show ?bC};ext aw;apply ?Sv (?a0M ?aP);{apply#[?k,?g,t,_,?i,?fB,a,c1,xs,k,?g,hL,e1,ho.lp,λG1 g1=>?bq];apply ?b8;let et':=?w9;apply#[?k,?g,t,_,?i,?n et',?h,a,c2,xs,k,?g,?Id,?Ug e2,ho.gg,?PS];apply ?b8;show ?T5 #[?h,?e6]};apply ?mr;intro sq;let et1:=?w9;apply#[?k,?i,?g,t,_,?i,?gk,?h,a,c3,xs,k+1,?g,?Id,?Q1,ho.fl,λG2 g2=>?Ee];let et2:=g2 _ _ et1;let eZ:=?e6;apply(?VD t (?n et2));apply ?bF (λh1=>kq G2 eZ) ?fS;(let h1:p.1=0:=by let:¬(0<p.1):=λz=>h1 (qf0 z);ext d);apply#[?g,t,_,?i,?n et2,?h,?ex];let g3:=?Ww ?cw hE;let e33:=?TY g3 eZ e3;rw[ho.no h1]at e33;show#[c3,E,[],[],?K,?u e33,?tf,kq _ ?ws]
def Cb:?T7 [?am,?bu,?hw,?hz,?ey,?Mj,?ez,?j5,?hs,"_law_weight"] ?xK Kn:=Bj
def Yz[?A](F:?Sz ?lY ?lY Kn)[?F][?kO][?Rv]:?Sw 3 ?xK ?Iq:=by apply ?TE Cb;have#[a,hd,la,p,xs,k,hl,lf,wu,O,O2,?aQ,?b3,h4,hl4,hH,hla,hlf,pc,kq]:=h;ext bY;let hp0:=pc.p0;let hp1:=pc.p1;let hwl:?H2:=hlf.1.trans pc.lfl;apply#[_,(Ad (?T1 4 ?eG (?XH Fb ?Ka)) (Ad (?a1a 5 ?eG (?XH Da (?T4 ?w (?a0e ?B)))) (Ad (?a0h 6 ?eG (?T2 Da ?w (?a1q ?X ?B))) (Ad (?a1h (?TL Bt (?XC ?H ?aE)) ?E6 (?a1F (?Xi ?fL ?B))) (Ad (O6 (Bu ?a0 ?h (Vc ?aY) (?XA 8 ?eG) (Af (?a1a 6 ?eG (?a1D Oe (?a0w ?b0 (?YV ?aY ?cx) (?XC ?X ?cx))))))) (Ad (Bq (?TA V2 ?aE) (Af (Bu ?a0 ?h (?TL Bt (?XC ?H ?Cu)) ?E6 (Ad (?T1 9 ?eG (?XH Kr (Aa ?fL ?e2))) (Ad (?a1I (?XZ (?TA Ev ?fL) Gn ?c9) ?sw) (?ZU (?TA V2 ?fL) (Ad (?a0j Gn (?a1r ?c9 ?fL) ?sw) (?a1F (Bc Jt ?c9 ?fL)))))))) Bg) (?XB ?b0))))))),?_];ext Z;apply ?Sv (?XX none none/\?bU);{apply ?U;let ?nq:=?cF hL hp0 hp1;apply ?P;apply#[?k,a,NB,?i,oS,jE,v2,Ek ?xZ,?h,?nH,?_];rw[?Tm ?xZ ((?xZ).length),pc.lv];show ?bC};ext aw;apply ?Sv (?a16 (?XX ?cD none) (H' E=?j ?Nz));{apply#[?g,?Ud p];(let sZ:?VK ?Md Z (?a0A [(p,1)]):=?rm);apply#[a,Z,xs,[(p,1)],?Sp];rw[?RO];show#[hp0,hp1]};apply Pn λE H1 nE s1 hE1=>?_;intro sq;ext f6;obtain⟨v0,hv0⟩:∃v,?Vk p.toNat:=(?UQ (?ir hp0 hp1));let ?BM:=hlf.2 _ v0 hv0;apply ?P;(let Cd7:Vo wu p=?VA c0:=?Ye hv0 (((p.toNat:Nat):Int)) p);apply ?Sv (Dn λ ?bD=>Di (?XX ?cD ?aK) ?dY ?gD ?jq (?Zp ?Fu));{apply#[?k,?g,la,wu,?i,?T3 s1 hla,Cd7,a,c0,xs,?jp,?h,?dv,?YB hc0,by let:=(pc.lfo p).len;ext d,h4,?Bk,λD H2 nD s2 hD=>?T5 #[D,?h,?fM nD,nD,s2,hD]];show(pc.lfr.part q hq).1};apply JU λD0 H2 nD nD1 s2 Je=>?_;intro sq;let nV:=?c3;let ZL:=?Tw hE1;let hm0:=jU hs B8 ?jp;let g0:=Q0 xs ?jp;generalize ?Fu=m0 at Je hm0 g0;apply ?Sv (Kz λ ?bD ?g0 ?iJ=>Ey (σ'=?JI) ?gD ?hu ?pJ ?hq (∀q,?gG=An m0 q+((?t8 k []).map ?CO).sum));{let ?HZ:=(?jb nV).at (j:=k) ?QZ;rw[eps]at key;(let hok:∀b∈ps,Dh ?jH/\Dh ?jm/\∀t∈?jH,?o4 ?nb t.2:=by let:=pc.r;rwa [eps]at this);apply#[?k,hd,us,?i,?sG,?wQ,Dk,?h,?FD,?_];have Cm4:?aR:=?Xb (Kz λ ?bD ?g0 ?iJ=>Ey (σ=?JI) ?gD ?rk ?tu ?hq (∀q,?gG=An m0 q+(?GW ?CO).sum));apply ?bp (K:=K) (a:=Dk) (xs:=uk) Cm4 #[D0,m0,?O,nD1,?eX H2,Je,hm0,?yF] (?XR ?NO g hDk) ?_ ?_;{rintro i v σ G hv Cl;ext f;revert σ;apply ?dN;intro D m o7 xE g Cu hm gm Db;let hi:=?cJ;obtain⟨b,hb⟩:?Ca:=?xk;apply ?U;let ?yL:=?HN;let#[o1,o2,B52]:=?O3;apply ?P;let rg:Rd G c2 (?a0A ?jm):=?u e2;apply#[?k,t,_,?i,?fB,c2,?h,?Mh,?g,_,Rz rg,?g,t,_,?i,?i3,?bg];apply#[D,c1,?nb,m,?jH,?QX (λx=>[?cH D,x,?cH c1]) ?np,Cu,e1,hm.n,o1.n,?yl,?LP,B52,?Nv];apply#[D',_,?g,?fO (?jF nD'),?gF,hD',?Nn,?le];rw[?Gi,gm q,bQ _ hb];exact _+?nb*An ?jH q=_+(_+?nb*An ?jH q);rw[ql9]};rintro σ G Cl;revert σ;apply ?dN;intro D m o7 xE g Cu hm gm Db;rw[?hO,qc8]at gm;show ?T5 #[D,m,o7,?h,xE,g,Cu,hm,gm]};apply bK λD3 m3 o7 H3 nD3 s3 BG hm3 g3=>?_;intro sq;let hE3:=?Y5 ZL;apply ?Sv (Kz λ ?bD ?g0 ?we=>Ey (σ'=?R3) ?gD ?vm ?pJ ?hq (?a02 ?eg));{apply ?Tc E ?m7 hE3;apply(?VC E ?m7);let Cc8:=JH hs B8 p;(let nDE:D3≠E:=λz=>by rw[z,hE1]at nD3;cases nD3);have Cm3:?aR:=?Xb (Kz λ ?bD ?g0 ?we=>Lj (σ=?R3) ?gD (G E=?VB ?Nz) ((∀c r,c≠E->H3 c=?j r->G c=?j r)) ?tu ?hq (?a02 ((?eg).take i)));apply Qh (d:=E) (o:=o) (kvs:=?m7) Cm3 #[D3,m3,?O,nD3,Ab,?lQ,by rw[Aj nDE];show BG,hm3,?yF] (?TK (?Xn #[?I,_,_,e,_])) ?_ ?_;{rintro i kk x σ G hx Cl;ext f;revert σ;apply Ao2 ?_;intro D m o8 xE BF hk Cu hm gm Db;apply ?U;let#[b,hb,?K]:=?cE;let#[bn,b0,b1]:=MD hs B8 h4 ?tv;obtain⟨v1,hv1⟩:∃v,?Vk ?tO:=(?UQ (?ir b0 b1));let ?Fz:=hlf.2 _ v1 hv1;apply ?P;(let A44:Vo wu b.1=?VA c1:=by let:=Bh hv1;rwa [?TU (((?tO:Nat):Int)=b.1)]at this);let hat:?fX ?eg b.1=?j b.2:=Ef Cc8.n ?tv;let Cc2:G la=?Zc wu:=?YI (λz=>by rw[←z,hla]at nE;cases nE) nV hla;let A41:?Zz c1 ?KZ:=?YI (λz=>by rw[z,nE]at hc1;cases hc1) nV hc1;let o1:=pc.lfo b.1;apply#[?k,?g,E,?o b.2,?h,?Tq BF,?k,la,wu,?i,?n Cc2,A44,?_];apply#[D,c1,b.2,m,?KZ,?h,Cu,A41,hm.n,o1.n,?yl,?LP,λt _=>cR ?l ?l,?Nv];(let B69:?Ti H1 D':=by cases z:H1 D' with| none=>rfl| some r =>cases y:D'=E;{rw[y,BF]at nD';cases nD'};rw[?YI y s2 z]at nD';cases nD');apply#[D',_,?g,B69,?rG,λc r n e=>?Ug (hk c r n e),hD',?Nn,?le];rw[?Gi,gm q,ZP _ hb,ql9]};rintro σ G Cl;revert σ;apply Ao2 ?_;intro D m o8 xE BF hk Cu hm gm Db;rw[J7,qc8]at gm;(let B67:D≠E:=λz=>by rw[z,hE1]at xE;cases xE);apply#[BF,?T5 #[D,m,o8,?h,xE,?Ro,?ZA B67,hm,gm]];cases z:c=E;{subst z;rw[hE3]at e;cases e;show Ab};rw[?cR];show hk c r z e};apply bK λD4 m4 o8 H4 nD4 s4 JR hm4 g4=>?_;intro sq;let hE4:=?Uw hE3;let MW:=?Tb ?wZ s4;apply ?Sv (X9 λ ?bD ?g0 ?KA=>Ey (σ'=(?Xd o7 o8 o9)) ?gD ?P6 ?pJ ?hq (∀q,?gG=?vL+blw k (λj=>(?I6 ?o9).sum)));{apply ?cB;apply ?bF ?Ok ?Ok;rotate_left;{(let hk0:k=0:=?Tf (?bW<?ak) ?Nb);subst hk0;show ?T5 ?H8};(let hk0:?bW<?ak:=?Nb);apply ?U;obtain⟨j,rfl⟩:∃j,k=?db:=#[?f2,?l];apply ?P;let ?HZ:=(?jb MW).at (j:=j) ?QZ;let hok:=pc.f j ?h;rw[eps]at hok;let key:=λσ' H' D m o7 o8 o9 h1 h2 h3 h4 h5 (h6:∀q,?gG=?vL+(ps.map ?o9).sum)=>?v σ' H' #[D,m,o7,o8,o9,h1,h2,h3,h4,h5,λq=>by exact _=_+(?I6 _).sum;rw[eps];show h6 q];(let A44:Vo us (?jQ-1)=?VA Dk:=by rw[?TD (?jQ-1=?e7)];show ?wQ);apply#[?k,?i,hd,us,?i,?sG,A44,Dk,?h,?FD,?_];have Cm2:?aR:=?Xb (X9 λ ?bD ?g0 ?KA=>Ey (σ=[?x,?cp,?aj,?aI,?TB ?jQ,?cD,?aK,o7,o8,o9]) ?gD (?p H4 G) ?tu ?hq (∀q,?gG=?vL+?F2));apply ?bp (K:=K) (a:=Dk) (xs:=uk) Cm2 ?H8 (λi σ G _ hz=>?XI #[?I,?I,_,g,_] g hDk) ?_ ?_;{rintro i v σ G hv Cl;ext f;revert σ;apply ?lf;intro D m o7 o8 o9 xE g Cu hm gm Db;let hi:=?cJ;obtain⟨b,hb⟩:?Ca:=?xk;apply ?U;let ?yL:=?HN;let#[#[ob1,ob2],bnn,bbig,b0,bp]:=?O3;apply ?P;let eq1:∀q,(?U2 ?k5 ?aZ ?o9).sum=?F2+JS ?eg q b:=λq=>bQ _ hb;apply ?Sv (?Xj ?fk);{apply#[?g,t,_,?i,?fB,?g,c2,E,?jm,?eg,?h,e2,?a0L hE4,?fh,λG1 g1=>?T5 ?HB];apply ?U;let#[bn,_,_]:=MD hs B8 h4 ht;apply ?P;show A02 ?l ?l};apply ?mr;intro sq;let et1:=?w9;apply ?Sv (?Xj (G1=H'));{apply(?Tt t ?gk);apply ?av;{(let h1:b.1=0:=?a5);apply ?bo;apply ?Tx (by rw[b0 h1];simp);show ?bC};show ?bC};rintro _ _ ⟨rfl,rfl⟩;apply(?VD t ?gk);apply ?av;{(let h1:0<b.1:=?a5);let#[bm,Ci4]:=bp h1;apply#[?k,t,_,?i,?gk,?h,?i,h1,?h,?g,?_];apply ?Tx (by exact ¬(! ?YC (?iK%b.1))=true;rw[bm];simp);apply#[?k,?g,t,_,?i,?gk,?h,?i,X7.of ?l bbig,?g,t,_,?i,?gk,?bg];let efd:(?iK).fdiv b.1=?C4:=?lP;apply#[D,c3,?C4,m,b.2.2.2,?ED,?ic,?Q1,hm.n,ob2.n,?yl,by let:=ob2.len;ext d,Ci4,λD' G2 nD' g2 hD'=>?_];apply#[D',?I,?g,?fO (?oI (s4.free (?jF (g1.free nD')))),?vH,hD',hm.lp ob2 _,?le];rw[iV hm.n ob2.n,gm q,eq1 q];unfold JS;rw[?x8,ql9]};(let h1:¬0<b.1:=?a5);apply#[D,m,_,_,?g,xE,?gF,?ic,hm,?le];rw[gm q,eq1 q];unfold JS;rw[?v6,qe5]};rintro σ G Cl;revert σ;apply ?lf;intro D m o7 o8 o9 xE g Cu hm gm Db;rw[?hO,qc8]at gm;show ?v _ _ D m o7 o8 o9 ?h xE g Cu hm gm};apply Aj4 λD5 m5 o7' o8' o9' H5 nD5 s5 hD5 hm5 g5=>?_;intro sq;show#[?g,kq D5 H5 m5 (?fM nD5) ?FI hD5 hm5 λq=>by rw[g5,g4,g3,g0];show pc.sum q]
def E4:?T7 [?EI,?i1,?ly,?em,?jf,?dT,?QO] ?rh Q9:=Bj
def ET[?A](F:?Sz ?kg ?kg Q9)[?F](Pf:?TF ?l4 ?xc ?Q7)(Xu:?T6 ?oe ?wh ?KQ)[?SF]:?Sw 3 ?rh ?LX:=by apply ?TE E4;let#[a,ns,kind,most,?fD,hl,hm0,hm1,k]:=h;ext bY;apply#[_,(Ad (?T1 3 ?g1 Ah) (Ad (?Zi ?L2 ?g1 ?wE) (Ad (?Zi ?L2 ?g1 ?uN) (Ad (?T1 4 ?g1 ?eC) (Ad (Bu ?a0 ?h ?iY (?Ty ?g1) (Ad (?a1a 6 ?g1 (?a1D Pf (?ZT ?aE (?T2 Xu ?aY (?a0d ?X ?uN)) ?dc))) (?ZU (?a1J QK ?mY ?H) (?XO 4 ?g1 ?b0)))) (Af (Az (B6 (N':=?QB) (cap:=[none,?j 3,?oh]) ?r ?a7 ?O6 (?Sy (?XA 0 Ay8)) ?aN (?Sy (?ZW (B6 (N':=?IX) (cap:=[none,?hr]) ?r ?a7 (Bt (K:=K) (?XH Jd ?cl)) (?a0n Ay7) ?aN (?a1R (Iv (K:=K) qf6 PySem.F.slot_list_index PySem.F.type_list_index (TZ (K:=K) Mp) ?B ?bv))))))))))))),?_];ext Z;apply ?TH (?a0F (iS 0)) ?bU;ext aw;apply Ak ?IM ?_ λBk6=>?_;rotate_left;{apply ?zl;apply ?B8;{show#[?g,Bk6 _ _ #[-1,?K,?a2]]};show Bk6 _ _ #[0,?K,?a2]};apply Aj9 λCh2 hf0=>?_;intro sq;apply Ak ?IM ?_ ?k2;rotate_left;{apply ?zl;apply ?B8;{apply#[?g,?i,?e4,?i,(?TX 19),?i,?Vi ?PR];let:kind / 18%19<19:=?ow;ext d};show ?Vi #[Ch2,?K,hf0]};apply Aj9 λfam hf=>?_;intro sq;let l1:0<=kind / 3%6:=?yU;let l2:kind / 3%6<6:=?ow;apply#[?ay,λW0 hW0=>?_];let s0:?VK H W0 ?fz:=?L hW0;apply#[?g,a,?h,#[_,s0.seq hS],?bp (K:=K) (a:=a) (xs:=?ee) (λj σ H2=>X9 λ(W:Addr) (wu:?b1) (ws:LLInt) (o5 o6:?bT)=>Lj (σ=[?yQ,?x,?sr,?cA,rS W,o5,o6]) ?eI (?Ti H W) (?VI W wu) (?Y4 H2 wu ?iw) (sD fam ws) ((ws.length:Int)<=most)) #[W0,[],[],?T,?O,s0,hW0,Ab,?h,sD.nil,by simpa using hm0] (?Ub #[?I,?I,s2,_]) ?_ ?_];{rintro j x σ H2 hx Cl;ext f;revert σ;apply Ao0 ?_;intro W wu ws o5 o6 s2 hW hW2 rW hO hwl Db;(ext SJ);(ext SD);subst hxv;apply#[?k,?k,?i,?e4,?i,(?TX 6),?i,?_];apply#[_,_,?g,?N,?l,λv H3 w s3 tv hw=>?_];apply ?bq;apply#[W,wu,v,ws,?qw,?Y5 hW2,?aO s3 rW,tv,hw,?l,λM mu H4 hM s4 hM4 rM=>?_];let VE:=?hN;let hMH:?E5:=?X6 ?fP hM;(let mul:?Wa ?OC:=?Pa);apply#[?g,M,?g,?Yi hM4,?g,?i,?g,?_];apply ?av;{(let h2:(mu.length:Int)<=most:=?a5);show#[?g,M,mu,?OC,_,?g,?cI VE,hMH,hM4,rM,eK hO hw,?l]};show#[W,wu,ws,_,?g,?cI VE,hW,VE _ _ hW2,?aO VE rW,hO,hwl]};ext kS;apply Ao0 ?_;intro W wu ws o5 o6 s2 hW hW2 rW hO hwl Db;(let wul:wu.length=ws.length:=by let:=rW.length;ext aF);apply(?Tn W (?YF hW2));let hDH:?dY:=?fO hD;have Cm1:?aG:=?XY (Bv (?a09 H1) ?dG (?ai K H1 ys (?U2 ?KH ?vZ tI)) (?TJ [o,?cA,rS W]));apply Cs (K:=K) (a:=W) (xs:=wu) Cm1 ?bw (?Xo (by ext gK;show ?T3 s1 hW2)) ?_ ?_;{rintro i x ys τ H1 hx Cl;revert τ;apply ?az;intro s1 Dv r1 o Db;let hi:i<wu.length:=?fT;let hil:?NZ:=?l;(let hix:?V5 ?iw (tI ws[i]):=?Wb hil);let ?k9:=rW.get hix;rw[hx]at hx';cases hx';let#[hwi,hfi]:=hO.mem (qd6 hil);generalize hwe:ws[i]=w at tx hwi hfi;apply#[?k,x,?qw,?fd s1 tx,hwi,λp fu H3 hp s3 hp3 r3=>?_];(let ful:fu.length=?C3:=by let:=r3.length;ext aF);let s13:=?vG;apply#[p,?h,(?YF hp3),?mN];have Cm0:?aG:=λm zs τ H4=>Bv (?p H3 H4) (H4 D2=?iV) (zs=((?eT).take m).map (λf=>?S ?Qx)) (?TJ [o,rS W]);apply Cs (K:=K) (a:=p) (xs:=fu) Cm0 ?ur (λm zs τ H4 _ hz=>?XW #[s4,_] ?n ?xD) ?_ ?_;{rintro m y zs τ H4 hy Cl;revert τ;apply ?az;intro s4 JR hzs o Db;let hm:?DO:=?r8;let hmf:m<?C3:=?l;(let hmy:(?NC tI)[m]?=?j ?Aq:=?EY);let ?KL:=r3.get hmy;rw[hy]at hy';cases hy';let hfm:?ud∈ws:=hfi _ ?pS;let kT:=s13.trans s4;let rw4:?Xr H4 W ?Gf:=#[W,wu,?h,?T3 kT hW2,?aO kT rW];let hfl:=(M0 hwi);(let hzl:zs.length<=4:=by rw[hzs,qa3,qc3];let:=hfl.2;let:=hfl.1;split at this<;>ext d);apply#[?g,?u #[?aB,?T3 kT hW2],?g,?iw,y,?Aq,jC ws ?ud,?h,rw4,?fd s4 ty,?HW,OX hfm,?_];apply#[JR,?bd,s4.turn Je,?W,?g];rw[qd9,?ro,qb2,hzs];rfl};rintro zs τ H4 ⟨s4,JR,hzs,_⟩;rw[ful,qc8]at hzs;let kT:=s13.trans s4;apply#[D2,?g,?u #[?n JR,?uW]];let s5:?p H4 ?FM:=?s6;let hD5:=?Z2 ?Nh Dv;(let t5:TI K ?FM ?vk ?t3:=by apply ?f3 ?JF;rw[qk7,Ab,hzs];rfl);(ext SO);apply#[hD5,?bd,?Vw kT.trans s5 hD,?W,?g];(let e2:?U2 ws.take ?aZ ?vZ=?KH ?vZ++[?t3]:=by rw[qd9,qa0 hil,hwe,qb2];rfl);rw[e2];show Il hD5 (?aO ?Nh r1) t5};rintro ys τ H1 ⟨s1,Dv,r1,_⟩;rw[wul,qc8]at r1;show k D ys H1 (Q3 ws fam) hDH (?cI s1) Dv r1 (EM hO) (by unfold Q3;rw[qa3];show hwl)
def qF:?T7 ?iZ ?u1 nU:=Bj
def Ac9[?A](F:?Sz ?pL ?pL nU)[?F][?zB](Rs:?T6 ?ks ?xu ?Dw)[?SC]:?Sw 4 ?u1 ?Fd:=by apply ?TE qF;let#[a,th,d,xs,?aQ,hd,k]:=h;let#[FD,fC,ER]:=T.x_FACE_COUNTS;ext bY;apply#[_,(Ad (?XE (?TP ?ko ?B ?yh) (Ng (?Vc ?nf (Jr (v:=?z FD) ?r fC ?h)))) (Ad (?T1 2 qF.nd ?Me) (Ad (?a0g (Dq (Dl (?a1P (B6 (N':=?QU) (cap:=[none,?e8,?hr]) ?r ?a7 (?TL Rm ?B) (?Sy (?XA 0 Bj3)) ?aN (?Sy (?XH Dz (?ZT ?B ?w ?P1)))))))) (?XB (Al9 (Js P8 ?H Ah ?J) (Lq (?a1D Rs ?cl))))))),?_];ext Z;apply(?VL ?C9 hd);cases d with| non=>ext kU| bl b=>ext kU| int i=>ext kU| str z=>ext kU| lst es=>ext kU| tup ds =>let#[pa,?aD,hq,r]:=id hd;let ul:?tU:=r.length;apply ?Tx (by simp[QX]);apply#[?g,pa,?aD,?m1,?o ?h9,Ek ?x7,?h,?a1 #[_,?g,ER H,?ou],?Jw,?g,?_];rw[ul];(let cnt:(! ?QK ?Fj)=! ?mX:=by (let:?QK ?Fj=?mX:=by simp only[Ek,qd7,qu5,qp8,List.any_nil,eqD,jL];rw[qq7];simp only[qw1,zc1,Bool.or_false];ext d);rw[this]);cases hc:?mX=true;rotate_left;{(let hc':?X0 ?mX:=by simpa using hc);apply ?VF (by rw[?c7,cnt,hc'];rfl);(let e2:?A6:=by rw[Vj];simp[hc']);rw[e2]at k;show k H ?hj};apply ?Tx (by rw[?c7,cnt,hc];simp);let hn4:ds.length<=4:=(Ag7 hc).1;apply#[?g,_,ds,?h,?a1 hd,?_];apply(?Tn pa ?xw);have Cl9:?aG:=?XY (?Zt (ys=((ds.take i).map λe=>?hm ?CZ)) (Dn λo=>τ=[o,?x,?TB ?it]));apply Qn (K:=K) (a:=pa) (xs:=us) Cl9 ?bw (?Xo (by ext gK;show ?sH)) ?_ ?_;{rintro i x ys τ H1 hx Cl;revert τ;apply ?az;intro s1 Dv hys o Db;let hi:i<us.length:=?fT;let#[e,he,re]:=r.getV hx;apply#[?k,?g,?i,a,x,e,_,?di,?dv,?a8 s1 re,?_];apply(?WX (?bz (by rw[hys,qa3,qc3];ext d)));rw[qd9,he,qb2,hys];rfl};rintro ys τ H1 ⟨s1,Dv,hys,_⟩;rw[ul,qc8]at hys;(let B92:ys=?U2 ds.map ?w5 ?hm:=by rw[hys,qk7];rfl);rw[B92]at Dv;apply#[D,?g,?ve,?g,?_];(let Br2:(ds.map ?w5).all id=?xY:=by rw[List.all_map];rfl);cases ha:?xY=true;rotate_left;{(let ha':?X0 ?xY:=by simpa using ha);apply ?VF (by rw[Br2,ha'];rfl);(let e2:?A6:=by rw[Vj];rw[ha',hc];rfl);rw[e2]at k;show ?gR};apply ?Tx (by rw[Br2,ha];simp);(let e2:?Oo=(?uh || Ph xs ?ua):=by rw[Vj];rw[ha,hc];rfl);rw[e2]at k;ext qn;ext gJ;{let h2:?uh=true:=h1;rw[h2]at k;show ?gR};(let h2:?X0 ?uh:=?a5);rw[h2]at k;let hint:=mQ ha;(let tv:TI K H1 ?Nl ?ua:=by let:=?a8 s1 hd;rw[hint]at this;show this);apply#[?k,a,_,xs,?ua,?h,?dv,tv,by simpa using hn4,?_,?gR];intro f hf;rw[qe3]at ha;(let hm:L2.D.int f∈ds:=by rw[hint];show qd1.mpr #[f,hf,?h]);let:=ha _ hm;simp only[Eu,qc2,qq9]at this;let#[#[f0,f1],f2]:=this;apply#[f0,f1,?_];rw[qa3];rw[IX,IX]at f2;(let h3:¬?it<2:=?bV);rw[IX]at h3;ext d
def NO:?T7 ?mt ?mt d8:=Bj
def oB[?A](F:?Sz ?pd ?pd d8)[?F][?SC][?zC]:?Sw 4 ?mt ?Bm:=by apply ?TE NO;let#[a,xs,k,p,n,?aQ,kq]:=h;apply(?ZV (Lr (?T2 Dz ?w ?Hd) (Lr (?a1D Hj ?dc) (?Ut Gn ?X Ah))));apply#[?k,?g,a,?o p,?o p,k,xs,?aQ,?h,?g,?_];ext zK;{apply#[?g,_,?o n,?K,?g,?_];apply ?F6;apply ?PR;(let e2:?B6=! ?YC n:=by unfold Kd;rw[e];cases z:n=0;{subst z;simp};simp[z]);rw[e2]at kq;show kq};(let e2:?X0 ?B6:=by unfold Kd;simp[e]);rw[e2]at kq;show kq
def Fl:?T7 [?ar,"i","first","j","at",?yi] ?wP Hw:=Bj
def Tw[?A](F:?Sz ?yO ?Mn Hw)[?F][?z0]:?Sw 4 ?wP ?Cw:=by apply ?TE Fl;have#[?f8,cnt,s,i,f,?cf,hi,hf,hif,hds,ok,k]:=h;ext qr;have ?j0:=x.ex;ext qm;apply#[_,(Af (Bu ?a0 ?h (g7 ?r ?b7 (?T4 ?H ?jK)) (?TR Fl.nd) (Ad (?T1 4 Fl.nd ?Q8) (Ad (?a0h 5 Fl.nd (Bc Jt (?XC ?e3 ?aE) (?XC ?Q8 ?aE))) (Af (?a1I ?Lc (?a0l ?B (?T4 ?X (P5 Kg ?aY))))))))),?_];apply#[?k,?ax,?g,?i5,q,?g,?u ?sF,(f:Int),(cnt:Int),?sQ,?ce];rw[?TU ((((cnt:Nat):Int)-?Jz).toNat=cnt-f)];clear lx hp l1 l2 l3 l4 l5;apply Ce (lo:=(f:Int)) (n:=cnt-f) (λd σ G=>Kz λo3 o4 o5=>σ=[?a4,?cg,iS f,o3,o4,o5]/\?TQ G cnt ?mT) #[?gO,?O,x] ?_ ?_;{rintro d σ G hd Cl;revert σ;apply ?f0;intro o3 o4 o5 y Db;apply ?U;let ?j0:=y.ex;let ?fQ:=lx.ob;let ?gu:=lx.rw;let ?GB:=hds ?dA ?l ?Pd;apply ?P;let bo:=ok d ?l;let ej:?Ya (?Jz+?LH) ?Mo:=?l;rw[ej];let hji:?dA≠i:=?l;let er:(?mT).1 ?dA=s.1 ?dA:=bX t i f s d _ hji;apply ?U;let ?tD:=?fp;let#[cj,_,ecj,_,hcj]:=?TL ?mP (show ?dA<n by ext zH);apply ?P;rw[er]at hcj;apply(?YG ?xV ?Pd);apply#[?g,?ax,?g,hp,?cd,?g,r,_,?i,?dr,?ji,?g,ci,_,?i,UH,?o5,?g,?ax,?g,hp,?cd,?g,r,_,?i,?dr,Bh ecj,?g,cj,_,?i,hcj,?o5,?i,?N9,?_];let hsx:∀G',?VU (?Cs i ?dA (-?mQ) ?mT)->?VU (?xi t i f s (d+1)):=λG' z=>z.re (by rw[Lat.shrS,er]);let hq:(?mQ).natAbs<2 ^ big:=Lat.fdiv_small h2 (?hF i _ hi h1);apply ?a19 (?Xa (σ'=[?a4,?cg,iS f,?j ?Fa,?TB (((?yc:Nat):Int)),?TB ?mQ]/\G=H')) (by rw[←?EG];rfl);rintro _ _ ⟨rfl,rfl⟩;generalize ?mQ=qq at hsx hq;apply ?bo;apply ?kk;{apply#[?g,?kW,?k,?k,?aH,?gb];let s1:?a0b ?vj:=?eB;let hT:?U8 ?vj ?Gt:=?ib;generalize ?vj=G1 at s1 hT;apply#[?Sr,?Gt,?h,?j7,?wi,hT,#[hi,?Kr,λz=>hji z.symm,?Ur (by rw[qd2];show hq) (?hF _ _ ?Am hc)],#[?Kr,hi,hji,?Ur (by rw[qd2,qd2];show hq) (bo.2 _ _ hi hc)],?N,?qJ];show(?YP (hsx _ (?a0X y.redo z)))};(let h5:qq=0:=?hQ);subst h5;show(?YP (hsx _ (y.re (Lat.addS_zero _ _ _).symm)))};ext f5;apply ?f0;intro o3 o4 o5 y Db;show k _ y
def K0:?T7 [?ar,"i","j",?ec,?dE,?hA] ?uZ Q8:=Bj
def eT[?A](F:?Sz ?wA ?Nu Q8)[?F](Mr:?GK)(Pb:?zx):?Sw 4 ?uZ ?GY:=by apply ?TE K0;let#[?f7,m,i,j,l,r,f,?cf,hij,hj,mn,mw,ok,k1,k2]:=h;let ?oE:=x.sm;let ?mH:=x.ob;let ?sm:=x.li;let#[p1,p1']:=ok.p1;let#[p2,p2']:=ok.p2;apply#[_,(Ad (?T1 3 K0.nd ?e3) (Ad (?T1 4 K0.nd ?fN) (Af (Bq (?TA Gn (?a1r ?aE ?X)) (Ad (?a0s (?ZT Rh ?B (Aa ?H ?g5))) (Ad (?T1 5 K0.nd (C6 ?bA ?dL Pb hr (?a12 ?Mi))) (Ad (?a0s (Aa Rh (Aa ?H (?T4 ?B (?a1O (?a01 K4 ?dJ) ?dJ))))) (Ad (Ni ?dJ ?xz) (?a1i (?a01 K4 ?Is) ?re))))) Bg)))),?_];ext Z;apply(?U7 (show i<m by show ?yX));apply(?U7 hj);apply ?Za (?a0y none);ext aw;apply#[?k,?i,p1,?h,?g,?_];ext gJ;rotate_left;{(let h2:?dy%?d4=0:=?a5);show k1 (?Pb h2)};ext Z;let#[dl,fl,hL,?I,m4,_]:=lx.ob;apply ?Sv (σ'=[?a4,?bR,?q4,?j ?qT,?Zg ?dy,none]/\∃r1 b1,?XK H' ?oR r/\LX H' ?M L r1 b1 ?T n n ?oR ?x6/\?YL r/\?Yb H0 r1/\?Yb H0 b1);{apply#[?g,?eO,?g,hpa,?gM,l3a,L,dl,fl,?aQ,?zp,?k,?aH,?gb];let s1:?Yn ?r4:=?eB;let hT:?U8 ?r4 ?Cy:=?ib;generalize ?r4=G1 at s1 hT;apply#[L,?eH,?M,r1,b1,_,n,n,l,_,?Cy,?h,?dF,?wi,hT,?HI,?HI,?N,?qJ];let ?QW:=x.left lx ly f3 f4 s1 sx n1 n2 z;show ?T5 #[?h,r',b',y1,z,y2,?rt n1,?rt n2]};ext zM;let#[r1',b1',x2,lx2,ly2,f1',f2']:=jT;let#[tvb,dxb,fsb,hpb,l1b,l2b,l3b,l4b,l5b,l6b,l7b,_]:=x2.ob;let#[dr,fr,hR,?I,m5,_]:=ly2.ob;apply ?s (λσ' H'=>Sx λ ?J1 (g a b:Int)=>Ey ?ye (?wg ?d4 ?dy g a b) ?u8 (?XK H' ?oR ?pe) (?YW L ?oR) (?YL ?pe)) ?t ?_;{apply#[?g,p,?V,dxb,fsb,?g,hpb,?b6,?jx,l4b,R,dr,fr,?h,hR,?AC,?k,?k,?_];apply#[R,?M,r2,b2,_,w,w,i,j,?d4,?dy,r,?g,?dF,ly2,?N,?N,?l,p1,p2,p1',p2',ok.br,λP g a b G fr kp hT sh z=>?_];let ?QW:=x2.right lx2 ly2 f1' f2' f3 f4 fr kp z;show ?T5 #[P,g,a,?b4,sh,hT,y1,y2,z]};apply VO λP g a b H3 sh zL x3 lx3 ly3=>?_;intro sq;let ?xR:=x3.ob;let#[dl3,fl3,hL3,?I,m6,_]:=lx3.ob;let g0:=sh.pos;let lg:?Lg:=qc1 ?PL p1';let lb:?Oz:=qc1 sh.lb p1';ext Sb;let ek:∀z:Int,z.fdiv g=z / g:=λz=>?lP;let lk':(?EZ).natAbs<2 ^ 18000:=?WN (B71 lb p2');apply ?Sv (Ft ?ye ?u8 (?XK H' ?NB ?pe));{apply#[?g,p,?V,dxc,fsc,?g,hpc,?gM,l3c,L,dl3,fl3,?h,hL3,?X1 m6,?k,?g,P,_,?i,zL,?h,?g,?i,IU lb p2',?g,P,_,?i,zL,?h,?i,cb _,?g,?aH,?_];rw[ek];intro T1 hT1;let s1:?p H3 ?yI:=?eB;let hT:?U8 ?yI ?C2:=?ib;generalize ?yI=G1 at s1 hT;apply#[L,?eH,?M,r1',b1',_,n,n,_,_,?C2,?h,?dF,lx3.keep s1,hT,#[?N,?l,?Ur (by rw[qd2];show lk') (ok.bl.2.1 _ _ ?l hc)],#[?N,?l,?Ur (by rw[qd2,qd2];show lk') (ok.bl.2.2 _ _ ?l hc)],?N,?qJ];let#[y1,_]:=x3.left lx3 ly3 f3 f4 s1 sx n1 n2 z;show ?T5 #[?h,qC (s1.seqT zL) (?YB hL3) sx,y1]};apply pW λH4 hT4 x4=>?_;intro sq;let#[tvd,dxd,fsd,hpd,l1d,l2d,l3d,l4d,l5d,l6d,l7d,_]:=x4.ob;apply#[?g,P,_,?i,hT4,?h,?g,p,?V,dxd,fsd,?g,hpd,?fC,l5d,?g,nm,_,_,i,?K,x4.nu,Mo (by rw[Bz];show ?yX),?_];let e1:?HD=?UY ?v0:=WA ?yX;let x5:=x4.num (ns':=?v0);rw[←e1]at x5;let hT5:SqT K (?Tv H4 nm ?HD) P ?RJ:=Bg0 hT4 x4.nu;apply ?a05 (?Xa (Ft ?ye ?u8 (WX K ?M ?V H0 H' p L R nm n w ?T ?NB ?pe ?v0))) #[?h,hT5,x5];apply pW λH6 hT6 x6=>?_;intro sq;let#[tve,dxe,fse,hpe,l1e,l2e,l3e,l4e,l5e,l6e,l7e,_]:=x6.ob;let lA:(?d4 / g).natAbs<L9:=?WN p1';apply#[?k,P,_,?i,hT6,?h,?i,cb _,?g,?i,(by rw[ek];show IU lA p2'),?g,p,?V,dxe,fse,?g,hpe,?fC,l5e,?g,nm,_,_,j,?K,x6.nu,Mo (by rw[Bz];show hj),?_];rw[ek];(let e2:(VI m ?IY).set j (?o (?d4 / g*?dy))=?UY ?Bq:=by rw[WA hj];exact VI m _=VI m _;apply U2 ?Dc;unfold shF Lat.put2;cases z1:c=j;{subst z1;rw[?c7,?mc,?c7]};rw[?ap z1];cases z2:c=i;{rw[?b5 z2,?b5 z2]};rw[?ap z2,?ap z2,?ap z1]);let x7:=x6.num (ns':=?Bq);rw[←e2]at x7;show k2 g a b _ sh x7
def Do:?E [?ah,"k",?hA,?tP,?uX,?no,?be,?fW,"turned_loops","turned_gauges","fillings",?dM,"i",?b9,?mE,?nI] ?w7 (Aq W9):=Bj
def lD[?A](F:?Sz ?nW ?nW W9)[?F][?SR][?kN][?qi](Qf:?TN ?li ?m5 ?QY):?Sw 4 ?w7 ?Dp:=by apply ?TE Do;have#[a,?zR,vl,vg,xs,k,z,k0,w,L,G,?d9,?aQ,B8,hw,hvl,hvg,x,hz,hkz,hkw,hf0,bl1,bl2,bL,bG,kq]:=h;have#[la,lu,?h,hlq,A38,_]:=J0 hvl;have#[ga,gu,?h,?I]:=J0 hvg;let hm:?cn<=40:=?uJ;(let hwl:w<=40:=by rw[hw];show ?uJ);apply#[_,(Ad (?T1 5 ?cz ?Jl) (Ad (?T1 6 ?cz (?ZP (?XD ?su))) (Ad (?T1 7 ?cz (?a1N ?bx (?a1c (Bc Gy ?aY ?RN)))) (Ad (?a0h 8 ?cz (?XH Np (?ZT (?T2 Du ?bx ?e2) ?X ?nR))) (Ad (?T1 9 ?cz (?XH Np (?ZT ?bx ?aE ?nR))) (Ad (?T1 10 ?cz (?a1D Du (?a0d ?bx ?RN))) (Ad (?T1 11 ?cz ?eC) (Ad (Bu ?a0 ?h (?U6 Yt ?ok ?iM) (?Sx 12 ?cz (?XA 13 ?cz)) (Ad (?a0h 14 ?cz (CG (?TA Ev ?LB) Ia (?Zl ?mo ?kL))) (Ad (?a0h 15 ?cz (?Zl ?B ?cx)) (Af (?a1X ?jR (?a0i (?a1m ?LB (Aa (pv 15) (?T4 (?a1D Qf (?ZT ?w ?B (?a1q ?c9 ?tk))) (pv 14)))))))))) (?XB ?jR))))))))),?_];ext Z;apply ?Sv (?a11 none/\?bU);{apply ?JM;rw[A38];show ?bC};ext aw;apply ?Sv (?a11 ?dl/\?aP);{apply#[?k,a,k,xs,?aQ,?l,λP H1 nP s1 hP=>?_];apply ?v3;rw[qa3];show ?lI};ext kQ;apply ?Sv (Dn λ(nn:Addr)=>Ft (?a0I none) ?aP (?XJ nn ?FX));{let x1:=?gZ s1;apply#[?g,tp,_,?i,x1.tup,?h,?aH,λl1 hl1=>?_];let s2:?Xy ?R0:=?L hl1;let e2:?q H1 l1 ?ej l1=?uF:=Ab;generalize ?R0=H2 at s2 e2;let x2:=x1.same s2;apply#[?k,tp,_,?i,x2.tup,?h,nm,?g,?u x2.num,?i,l1,?i,e2,?ad,?_,λl2 hl2=>?_];{rw[Bz];ext d};{rw[Bz];ext d};{rw[Bz];show ?e9};(let er:(?c5 (?ul-(((VI k0 f).length:Nat):Int)).toNat [?cU]).flatten=?L8:=by rw[Bz,?TU ((?ul-?pg).toNat=z-k0)];generalize z-k0=n;induction n with| zero=>rfl| succ n ih=>rw[qm1,qn8,ih];rfl);rw[er];let s3:=?cI (?L (o:=?y ?L8) hl2);let x3:=x1.same s3;apply#[nm,l2,?i,x3.num,?ag,Bl (by rw[Bz,qj4];ext d),λnn hnn=>?_];apply ?T5 #[nn,?h,?ZE ?vG (?L hnn),?_];rw[Ab,OE hkz]};apply Sy λnn H2 s2 hnn=>?_;intro sq;apply ?Sv (Dn λ(tl:Addr)=>Ft (?a0I ?fJ) ?hu (?Xr H' tl (dT z ?cn (?lh z l.2 L))));{let x2:=?gZ s2;apply#[?g,tp,_,?i,x2.tup,?h,?g,?ia,z,z,?g,x2.lback,?N,λF as H3 hal R3=>?_];apply#[?k,?z F,?y9,z,z,?cn,_,?g,?r6,?a8 ?JS hvl,?N,?l,?UH bl2 bL,λtl at_ H4 jR R4=>?_];show ?T5 #[tl,?h,R3.same.trans ?sc,R4.rep jR]};apply Sy λtl H3 s3 jR=>?_;intro sq;let s23:=?fP;apply ?Sv (Dn λ(tg:Addr)=>Ft (?Zw none none) ?vm (?Xr H' tg (dT z ?cn (?lh z l.1 G))));{let x3:=?gZ s23;apply#[?g,tp,_,?i,?wk,?h,?k,?z r1,?mD,z,z,?cn,_,?g,x3.left,?a8 s23 hvg,?N,?l,?UH bl1 bG,λtg at_ H4 htg R4=>?_];show ?T5 #[tg,?h,?sc,R4.rep htg]};apply Sy λtg H4 s4 htg=>?_;intro sq;let VE:=s23.trans s4;apply ?Sv (Dn λ(fi:Addr)=>Ft (?Zw ?jE none) ?P6 (?Xr H' fi (dT w w r.1)));{let x4:=?gZ VE;apply ?U;let#[_,du,ez,hdq,Cc9,_]:=J0 ?Br;apply ?P;cases ez;apply#[?g,tp,_,?i,?tW,?h,?g,tp,_,?i,?tW,?h,D2,du,?h,?u hdq,?_];rw[Cc9];apply#[?ed,w,w,?g,?Br,?N,λfi at_ H5 hfi R5=>?_];show ?T5 #[fi,?h,R5.same,R5.rep hfi]};apply Sy λfi H5 s5 hfi=>?_;intro sq;apply ?Sv (Dn λ ?bD=>Bv (?Zw ?jE ?aK) ?tI (?Yb H5 D) ?ON);ext SP;apply Pn λD H6 s6 nD hD=>?_;intro sq;let s25:=VE.trans s5;let Bm7:=(?Tb ?hN s5) _ _ hnn;let B98:=?a8 ?nE jR;let B99:=?a8 s5 htg;let hL5:=?UU s25;apply ?Sv (X9 λ ?eb ?zr=>Bv (σ'=?M2) ?tI (?cX=?e5) (Cd H' us (?Xz B7 k)));{apply(?a0W nn #[_,?T3 s6 Bm7]);have Cl8:?aR:=λi σ G'=>X9 λ ?eb ?zr=>Bv (σ=?M2) (?p H5 G') (G' D=?e5) (Cd G' us (?pE (?Xz B9 k)));apply DH (K:=K) (a:=nn) (xs:=?FX) Cl8 #[[],?gO,?T,?O,s6,hD,?w8] (λi σ G' _ hz=>?a0Z ?L3 g Bm7) ?_ ?_;{rintro i v σ G' p hv Cl hp;ext f;revert σ;apply Ao1 ?_;intro us o12 o13 o14 o15 g Cu rU Db;(let hi:i<z:=by let:=?cJ;rwa [Bz]at this);rw[C7 hi]at hv;cases hv;(let VT:?Tl i:=by let:=rU.len;rw[qa3,ql2]at this;show this);let sp:?p G' ?It:=?bk;let ep:?q G' p ?y0 p=?j ?y0:=Ab;apply(?U3 p (?n ep));generalize ?It=G1 at sp ep;let g1:=?d6 sp;(let rows:∀(t:Addr) (h w':Nat) (M:Lat.Mat) (G2:Hp),Rep K G2 ?kJ (dT h w' M)->i<h->∃tu b,SqL K G2 t tu/\Vo tu ?aX=?j ?pG/\SqL K G2 b (VI w' (M i)):=λt h w' M G2 hr hih=>by have#[_,tu,ez,hq,hl,Nz]:=J0 hr;cases ez;ext f6;obtain⟨u,hu⟩:∃u,?V5 tu u:=#[tu[i],qa0 ?l];let ?Kf:=Nz i u hu;apply ?P;show#[tu,b,hq,Bh hu,hb]);apply ?Sv (Dn λ(fl:Addr)=>Ft (?Xc o15) ?iI (?Zn fl (if ?lV=0 then [] else Hq xs (k+1) ?Cr)));{apply ?bo;apply ?av;{(let e0:?lV=0:=?a5);apply λfl hfl=>?T5 #[fl,?h,?L hfl,?_];rw[Ab,?b5 e0];rfl};(let e0:¬?lV=0:=?a5);(let hik:i<k0:=by cases hh:i<k0;{show hh};unfold Lat.numAt at e0;rw[?ap hh]at e0;show ?dB ?h e0);apply ?U;let ?yn:=rows fi w w r.1 G1 (?a8 g1 hfi) ?l;apply ?P;apply#[?k,?i,?k,fi,tu,?i,h1q,h2q,?c2,k+1,Ic w ?Cr,?h,?a8 g1 hL5,?l,?uy,by rw[Jw,hw],λfl G2 nfl g2 hfl=>?_];apply ?T5 #[fl,?h,g2,?_];rw[hfl,?ap e0,hw];rfl};apply Sy λfl G2 g2 hfl=>?_;intro sq;let eZ:=?e6;apply ?Sv (Dn λ(lp:Addr)=>Ft (?Xc (rS lp)) ?v5 (?Zn lp (Hq xs k ?IP)));{apply ?U;let ?yn:=rows tl z ?cn _ G2 (?a8 eZ B98) hi;apply ?P;apply#[?k,?k,tl,tu,?i,h1q,h2q,?c2,k,Ic ?cn ?IP,?h,?a8 eZ hL5,?l,?uy,?NS,λlp G3 nlp g3 hlp=>?_];show ?T5 #[lp,?h,g3,hlp]};apply Sy λlp G3 g3 hlp=>?_;intro sq;let g13:=?ws;let Bg8:=?TM ?uV g2 g3;apply ?U;let ?yn:=rows tg z ?cn _ G3 (?a8 g13 B99) hi;apply ?P;apply#[?g,?u #[?aB,?T3 Bg8 Cu],?k,?k,?k,tg,tu,?i,h1q,h2q,?c2,k,Ic ?cn (?lh z l.1 G i),?h,?a8 g13 hL5,?l,?uy,?NS,λgp G4 ngp g4 hgp=>?_];apply(?Wx ?fh);let g5:=?Ww ?m2 ht;let et:?q G4 t ?m2 t=?j ?m2:=Ab;generalize ?q G4 t ?m2=G5 at g5 et;let g45:=?lr;let s05:=Bg8.trans g45;apply(?YZ ?p2);let hP:Ka G5 ?kJ (B9 xs k z k0 L G f l r i):=#[t,lp,gp,fl,?h,et,g45 _ _ hlp,g5 _ _ hgp,(?sJ g45) _ _ hfl,(Ap (g3 _ _ hfl) ngp).symm];(let nDt:∀c o,?Mk->(∀vs,o≠?zg)->?gz:=λc o e h z=>by rw[z,?p2]at e;cases e;show h _ ?h);(let sx:∀c o,?gz->?Mk->?q G5 D (?y ?Gp) c=?co:=λc o hc e=>by rw[Aj hc];show e);apply#[?Gp,?I,?g,?Vw ?d6 s05 nD,?W];rw[ql5,qb2];show Cd.snoc (Cd.put ?p2 (Cd.same s05 rU)) (Ka.put hP ?p2)};rintro σ G' Cl;revert σ;apply Ao1 ?_;intro us o12 o13 o14 o15 g Cu rU Db;rw[Bz]at rU;show ?T5 #[us,?I,?g,g,Cu,rU]};apply Bd2 λus o12 o13 o14 o15 H7 s7 hD7 rU=>?_;intro sq;show#[?g,kq D us H7 (s25.free nD) (s25.trans s7) hD7 rU]
def eO:?T7 ?cT ?cT Re:=Bj
def EV[?A](F:?Sz ?ru ?Im Re)[?F][?kM]:?Sw 4 ?cT ?A0:=by apply ?TE eO;ext yu;apply#[_,(Ad ?lZ (Af (Az (B6 (N':=?JB) (cap:=[none,none,none,none]) ?r ?a7 ?kj (?Sy (?Zd (?XA 0 IT) (?a0z (?XA 1 IT) (?XA 2 IT) (?XA 3 IT)))) ?aN (?Sy (?a0R (Aa (?a1C Kt ?bE) (?a0d (?a1C Kt ?bl) (?a1C Kt ?dc))))))))),?_];ext Z;ext yv;have Cl7:?aG:=?Xh (Dt H G ys ?fc) (Sx λo1 o2 o3 o4=>τ=[o1,o2,o3,o4]);apply Cs (K:=K) (a:=E) (xs:=eu) Cl7 #[?aV,#[?h,λi v p e=>?k4],?I,?g] ?rj ?_ ?_;{rintro i v ys τ G hv Cl;revert τ;apply Bk2 ?_;intro g Cu rY o1 o2 o3 o4 Db;let hi:=?cJ;apply ?U;let ?pO:=?lv;let#[?dh,et,d1,d2,d3,_]:=?rv;apply ?P;(let yl:?kl:=by let:=rY.1;rw[qc3]at this;ext d);apply ?vp;apply#[?k,c1,?g,?u d1,λa1 h1=>?_];let g1:=?Ve (q.2.1) h1;apply#[?g,c2,?g,?u (?Ug d2),λa2 h2=>?_];let g2:=?og ?Ip;apply#[?g,c3,?g,?YS g2 d3,λa3 h3=>?_];let g2':=?Ip;let g3':=?Ve ?ts h3;let g3:=?Cz g3';apply#[?aH,λt' ht'=>?_];let g4':=?L (o:=?a9 [?gI,?z a1,?z a2,?z a3]) ht';let g4:=?sJ g4';apply#[?uI,?bd,?Vw ?d6 g4 hD,?W,?I,?g];rw[qd9,hq];apply Dt.snoc ((rY.same g4).put ?uI) (Sc.put ?_ ?uI);show#[t',a1,a2,a3,?h,#[(?d6 g3).free ht',?jF h1,?X6 ?gF h2,?X6 ?eu h3],Ab,(?TM g2'.trans g3' g4') _ _ Ab,(g3'.trans g4') _ _ Ab,g4' _ _ Ab]};rintro ys τ G ⟨g,Cu,rY,_⟩;rw[el,qc8]at rY;show kq ps D ys G hps hD g Cu rY
def EO:?T7 ?cT ?cT Rf:=Bj
def eW[?A](F:?Sz ?vY ?IU Rf)[?F][?kM]:?Sw 4 ?cT ?R1:=by apply ?TE EO;ext yu;apply#[_,(?a1p ?lZ (?ZP (?a0i (?a1U (?Sy (Ml (Ba Ev ?fs Ah ?J))) ?gp)))),?_];ext Z;ext yv;have Cl6:?aG:=?Xh (?WL ((?NR λp=>?ac (p.1=0)).length)) ?dW;apply ?US Cl6;{rintro i v ys τ G hv Cl;revert τ;apply ?az;intro g Cu yl o Db;apply ?U;let ?pO:=?lv;let ?xs:=?rv;apply ?P;(ext z2);(let y40:?kl:=by let h3:=?Uk (p.1=0) ?fc;rw[qc3]at h3;ext d);apply ?is;apply ?fn;{(let xY:?iX:=?bV);apply#[?g,Cu,?bd,?x0,?W,?g];rw[oZ,qj1,ql8,?b5 ?pW,qt5,qb6,qb6,yl];rfl};(let xY:¬?iX:=?bV);apply ?Iy;rw[oZ,qj1,ql8,?ap ?pW,qt5,qt6,yl]};rintro ys τ G ⟨g,Cu,yl,_⟩;apply#[D,ys,?h,?u ?fb,?_];rw[el,qc8]at yl;rw[yl];show kq ps G hps g
def bZ:?T7 ?cT ?cT Oz:=Bj
def cO[?A](F:?Sz ?ui ?Ez Oz)[?F][?kM]:?Sw 4 ?cT ?O8:=by apply ?TE bZ;ext yu;apply(?ZR ?lZ (?XB (?a1U ?Ms ?Ek)));ext Z;ext yv;have Cl5:?aG:=λi ys τ G=>Bv ?c1 ?jX (ys=((?NR λp=>?ac (p.1≠0)).map (·.1)).map ?S) ?dW;apply ?US Cl5;{rintro i v ys τ G hv Cl;revert τ;apply ?az;intro g Cu yl o Db;apply ?U;let ?pO:=?lv;let ?xs:=?rv;apply ?P;(ext z2);(let y40:?kl:=by let h3:=?Uk (p.1≠0) ?fc;rw[qc3]at h3;rw[yl,qa3,qa3];ext d);apply ?is;apply ?fn;{(let xY:¬?iX:=?bV);apply#[?g,t,_,?i,?fB,Cu,?bd,?x0,?W,?g];rw[oZ,qj1,ql8,?b5 ?pW,qt5,qb2,qb2,yl];rfl};(let xY:?iX:=?bV);apply ?Iy;rw[oZ,qj1,ql8,?ap ?pW,qt5,qt6,yl]};rintro ys τ G ⟨g,Cu,yl,_⟩;rw[el,qc8]at yl;apply kq ps D G hps hD g ?_;rw[Cu,yl];rfl
def F3:?T7 [?am,?hw,?hz,?ey,?Ke,?j5,?bu] ?h6 Ow:=Bj
def CM[?A](F:?Sz ?op ?op Ow)[?F][?yz](Xv:?TN ?kc ?lS ?Jt)[?kO]:?Sw 4 ?h6 ?Od:=by apply ?TE F3;ext f6;let#[?zQ,?aQ,B8,hH,hla,hd0,kw,kq]:=h;let n4:=kw.n4;let hwl:?H2:=hd0.1.trans kw.lfl;ext SY;apply ?P;apply#[_,(Ad (?XE (?TP R8 ?B ?lp) (Ng (?TA Gn ?nf))) (Ad (?XE (?TP R8 ?H ?lp) (Ng (?a1J Gn ?eo ?dt))) (Ad (Bu ?a0 ?h ?lD (?TR ?ik) (Ad (?T1 4 ?ik Ah) (Ad (?a0g (?TP R8 ?I4 ?lp)) (Af (Bu ?a0 ?h (?TL Bt ?I4) (?Ty ?ik) (Ad (?XP (?T2 Xv ?w (?ZT ?X ?aY ?k6)) ?aS) (?XO 4 ?ik ?dJ))))))) (?a1W ?ik (?a1k (?Zb (?a1D Eh (Aa ?w (Aa (Bc Cg (?T2 Fb (?XC ?w ?b0) Ac) Ah) (?a1q ?H ?b0)))))))))),?_];ext Z;ext SA;ext S4;{apply(?V1 hd hhd);apply ?b8;apply#[?g,hd,?aD,?Yi hhd,?h,?g,?_];apply ?Tx (by rw[Xs,n4];decide);show ?bC};ext aw;ext S4;{apply(?V1 la hla);apply ?b8;apply#[?g,la,wu,?h,?Yi hla,?g,a,xu,?h,?u hxu,?h,?g,?_];apply ?Tx (by rw[hwl,xul];simp);show ?bC};ext aw;apply ?Sv (?a04 ?aP);{apply ?x3;have Cl4:?aR:=λi σ G=>?Vy ?c1;apply ?UP Cl4 (?YP ?hj);{rintro i σ G hi Cl;ext f;revert σ;apply ?f0;intro o3 o4 o5 g Db;rw[?f4];let hi:i<4:=hi;apply ?U;let#[us',D,uk,ps,e1,hv,hD,rP,hps,hgd]:=J8.at hH (j:=i) ?l;apply ?P;rw[hhd]at e1;cases e1;let hok:=kw.ok i hi;rw[hgd]at hok;apply E7 ?OP ?_ ?dD;rintro _ _ ⟨rfl,rfl⟩;apply ?s ?OP ?t ?_;{apply#[?k,hd,us,?i,?T3 g hhd,?ds,D,uk,?h,?lc,?g,?_];apply ?b8;show ?bC};rintro _ _ ⟨rfl,rfl⟩;apply#[?k,hd,us,?i,?T3 g hhd,?ds,D,?h,(?YF ?lc),?_];apply ?bp (K:=K) (a:=D) (xs:=uk) (λj σ G2=>Dn λo5=>σ=[?x,?aj,?aI,?bR,?TB (V6 ps j),o5,none]/\?yt) #[o5,?h,?eX G] (λj σ G2 _ hz=>?XI #[_,_,g2] g2 ?lc) ?_ ?_;{rintro j v σ G2 hv2 Cl;revert σ;apply ?bm;intro o5' g2 Db;let hj:=(?eU hv2).1;obtain⟨p,hp⟩:?Nr:=?xk;let gg:=?eu;apply ?U;let ?yL:=(?m4 gg).2 j v p hv2 hp;let ho:=hok.one p ?u2;let ?Hk:=XO hok.ord (?WJ ((hok.one q hq).nn)) hp;apply ?P;let els:V6 ps ?db=p.1:=cW hp;rw[els];apply ?Sv (σ'=(?Xf ?bR (?Zg (V6 ps j)) (rS t))/\?v5);{apply#[?k,?k,a,t,c1,c2,c3,xs,_,_,p,?h,?ob,?iA,ho,?Hk,?IJ];apply ?b8;show ?T5 #[?h,g3]};apply Gm λG3 g3=>?_;intro sq;show#[?g,t,_,?i,?T3 g3 et,?h,?g,?d0]};rintro σ G2 Cl;revert σ;apply ?bm;intro o5' g2 Db;show ?Mv};rintro σ G Cl;revert σ;apply ?f0;intro o3 o4 o5 g Db;show ?DF};apply Aj6 λo3 o4 o5 G g=>?_;intro sq;ext S3;{apply ?HG;have Cl3:?aR:=?Ax;apply ?Um Cl3;{rintro i σ G2 hi Cl;ext f;revert σ;apply ?bm;intro o6 g2 Db;rw[?f4];let gg:=?eu;apply ?U;let ?nq:=?WT ?ob ?B3;obtain⟨v0,hv0⟩:∃v,?Vk i:=(?UQ ?B3);let ?BM:=hd0.2 _ v0 hv0;apply ?P;let hlv:=kw.lf i ?l;rw[qb8]at vV;apply#[?k,?g,a,NB,?i,oS,jE,v2,?yk,?h,?nH,?i,?k,la,wu,?i,?n ?Dy,Bh hv0,a,c0,xs,_,?g,?ob,gg _ _ hc0,?_,?IJ];{rw[?BH];show hlv};apply ?b8;show#[?g,?d0]};rintro σ G2 Cl;revert σ;apply ?bm;intro o6 g2 Db;show ?EN};ext SS
def kR:?T7 ?nQ ?nQ Xf:=Bj
def LG[?A](F:?Sz ?pD ?pD Xf)[?F](DF:?UX ?pd ?mt ?Bm):?Sw 5 ?nQ ?MA:=by apply ?TE kR;let(?Wy hm):=h;apply#[_,(Ad ?Nq (?a1E (?a1b (NX (B6 (N':=?Rf) (cap:=[none,none,?e8,?c8]) ?r ?a7 (Nj ?H) (?ZO Am9 Am9) ?aN (?Sy (?XH DF (?ZT ?H ?X ?cl)))))))),?_];ext Z;apply(?V1 b (?u hb));ext qs;apply ?Tc b ?bM hb;apply#[?g,b,?iB,Ab,?aW];let#[VG,AU]:=dH hD;have Cl2:?aG:=?Y0 (Di (zs=?U2 ?N0 ?A5 ?hm) (H1 b=?mq) ?iL (Qu b H H1) (?Ta [o1,o2,?x,?bL]));apply X1 (d:=b) (o:=o) (kvs:=?bM) Cl2 ?JQ ?Ll ?_ ?_;{rw[?jI];show Ab};ext zA;{rintro i kk x zs τ H1 p hx Cl hp;revert τ;apply xN ?_;intro hz1 hb1 Dv hk1 o1 o2 Db;subst hz1;let ?cy:=?cE;let hlt:?hl:=?fR;let sp:?sP:=?bk;apply ?eL;apply#[?k,?k,a,xs,k,q.1,q.2,?h,?a8 sp (?hH hk1 hb hL),?_];apply ?Rg;{rw[qr0,hq,qb2,qb2];rfl};{rw[?jI];show ?Uv hb1};rw[?vC];show ?Ju};rintro zs τ H1 ⟨rfl,hb1,Dv,hk1,_⟩;rw[J7,qc8]at Dv;apply#[hb1,D,?vT ?A5,?h,?n ?FC,?_];rw[List.all_map];apply kq _ ?v7;cases z:c=b;{subst z;rw[hb]at e2;cases e2;show Ab};rw[?cR];show ?vy
def Lk:?T7 [?ft,?bb,?tr] [?ft] Nc:=Bj
def aS[?A](F:?Sz ?lK ?lK Nc)[?F](xZ:?UX ?pL ?u1 ?Fd):?Sw 5 [?ft] ?Ou:=by apply ?TE Lk;let#[v,xs,?aQ,hs,hx,k]:=h;let ?QR:=?ff;(ext SH);apply(?ZR (Bu ?a0 ?h ?wz (?Sx 1 Lk.nd (?XA 2 Lk.nd)) (Af (?XP (?T2 xZ ?ra ?bl) ?jt))) ?sw);ext Z;apply(?a0W a ?Ha);have Cl1:?aR:=?Xb (?Zm (σ=[?x,o1,o2]/\?c1));apply DH (K:=K) (a:=a) (xs:=us) Cl1 #[?T,?O,?hj] (?TK (by let#[?I,s1]:=hz;show ?mi)) ?_ ?_;{rintro i v σ G p hv Cl hp;ext f;revert σ;apply ?gr;intro o1 o2 s1 Db;(let hi:?Bx:=by let:=?cJ;ext d);let ?Om:=r.getV hv;(let edv:dv=?QH:=by rw[qa6,?bc]at XX;simpa using XX.symm);subst edv;let sp:?a0b ?DX:=?bk;apply ?eL;generalize ?DX=G1 at sp;let s2:=?hD;apply#[?k,?g,a,?aD,?h4 hq,?Dc];let s3:?a0U ?Ny:=?L hc;let ec:?q G1 c ?uL c=?j ?uL:=Ab;generalize ?Ny=G2 at s3 ec;let s4:=?fP;(let Cd2:LT K G2 ?xW ?Jg:=by apply#[c,?g,?n ec,?_];rw[Li,qp5];show(?Vv s4).take i);apply#[?g,c,v,?QH,?Jg,?h,Cd2,?a8 s4 rv,λG3 s5=>?bq];rw[uN (hs i xs[i] ?bc)];apply ?b8;show#[_,?g,?nE]};ext f5;apply ?gr;intro o1 o2 s1 Db;show k G s1
def Jm:?T7 [?ar,?uk,"i","at","head",?dE] ?rX Ou:=Bj
def CK[?A](F:?Sz ?sq ?G7 Ou)[?F][?S5][?z0](L1:?L4):?Sw 5 ?rX ?MQ:=by apply ?TE Jm;have#[?f8,?aT,i,s,Nx,?cf,hs,hi,ok,k]:=h;ext qr;have ?Hy:=x.ex;ext qm;have ?gu:=lx.rw;have ?GB:=ok.hd ?aT ?hv hs;have#[o1,o2]:=ok.oth;have ?tD:=?fp;have ?NI:=?mP (K:=K) ?kE;apply#[_,(Ad (?T1 3 Jm.nd ?e3) (Ad (?T1 4 Jm.nd (?XC ?e3 ?X)) (Ad (?T1 5 Jm.nd (?XC ?fN ?X)) (Ad (Bq (?TA Ev (?a01 Dy ?aY)) (?a0l ?H (?T4 ?B (?a1O ?aY ?aE))) (Ad (Bw (C6 ?w ?bG L1 hr (?ZT ?B ?H ?Pt))) ?GL)) (?TS Cy (Aa ?H ?CP)))))),?_];ext Z;apply(?YG ?sF hs);apply(?UZ (Bh ecs) cs hcs);apply(?UZ ?ji ci UH);apply ?a0S ?bU ?NQ;ext aw;apply ?a08 ?rY (∃s1,?TQ H' i s1/\HU n W t i ?cG i s1/\Hds W t ?cG i s1.1/\Nx (?xi t i ?cG s1 (i-?cG)));{apply#[?k,?i,h2,?h,?g,?_];apply ?kk;{(let h5:?gq%?gh=0:=?hQ);let h6:?gq=?tM*?gh:=(Int.ediv_mul_cancel (?Pb h5)).symm;let ?Cn:=ok.add _ h6;apply#[?g,?kW,?k,?k,?i,?N9,?g,?aH,?_];rw[?EG];let hk:?VX ?tM:=?WN o2;generalize ?tM=kk at h6 LI wV hk;intro T1 hT1;let s1:?Yn ?uz:=?eB;let hT:?U8 ?uz ?tA:=?ib;generalize ?uz=G1 at s1 hT;apply#[?Sr,?tA,?h,?j7,?wi,hT,#[hi,?N,?Z9 (oJ (by rw[qd2];show hk) (ok.bo.1 _ _ ?l hc))],#[?l,hi,?l,?Z9 (oJ (by rw[qd2,qd2];show hk) (ok.bo.2 _ _ hi hc))],?N,?qJ];apply ?T5 #[?aB,?a0X x.redo z,LI,?FR,wV];let e:(tnS ?tA s).1 j=?mS:=Lat.addR_row_ne ?HO;rw[e];show ?In};apply ?a0S (∃g a c,?wg ?gh ?gq g a c/\?TQ H' i ?up) ?k2;rotate_left;{apply#[?g,?kW,?k,?k,?_];apply#[p,?Y,r,b,_,n,W,?aT,i,_,_,s,?g,?j7,lx,?l,hi,?N,?l,h2,o1,h3,o2,ok.bo,λL g a c G fr kp _ sh z=>?_];show ?Vi #[?h,g,a,c,sh,x.redo2 lx f1 f2 fr kp z]};apply Gm λG jT=>?_;intro sq;apply ?U;let#[g,a,c,sh,y]:=jT;let#[LI,wV,ok3]:=ok.ble g a c sh;(let hd1:Hds W t ?cG i (?up).1:=λj hj1 hj2=>by let e:(?up).1 j=?mS:=?Dv ?AH ?HO _ _ _ _;rw[e];show ?In);let ?Eb:=y.ex;let ?C0:=ly.ob;apply ?P;apply ?Jc;apply#[?f8,i,_,?aT,?cG,?h,y,?N,?u ?l,hd1,LI,?LG];apply ?T5 #[?aB,z,wV,?FR,ok3];rw[bX _ _ _ _ _ _ ?AH];show hd1 j hj1 hj2};apply Gm λG jT=>?_;intro sq;have#[s1,y,LI,hd1,wV]:=jT;have ?Eb:=y.ex;have ?C0:=ly.ob;apply ?Jc;show#[?f8,i,s1,i,?cG,?h,y,hi,?l,?a1 ?hv,hd1,LI,λG' z=>k _ _ z wV]
def Pz:?T7 ?id ?cL Lm:=Bj
def g9[?A](F:?Sz ?s4 ?Mf Lm)[?F][?S5]:?Sw 5 ?cL ?Ja:=by apply ?TE Pz;have#[?f8,i,s,?cf,ok,k]:=h;ext qr;have ?j0:=x.ex;ext qm;apply#[_,(Af (?a1h (Ab5 ?r ?b7 (?a0w (?a1G ?jK) ?wE ?wE)) (?XA 1 Pz.nd) ?GL)),?_];apply#[?g,?ax,?g,?i5,q,?g,?u ?sF,?i,?k,?aZ,?sQ,?ce];clear lx hp l1 l2 l3 l4 l5;have Cl0:?aR:=λd σ G=>Dn λo1=>σ=?Ma/\?TQ G ?aZ ?L6;apply YD (hi:=?mv-1) (n:=?aZ) Cl0 ?Pq ?_ ?_;{rintro d σ G hd Cl;ext f;revert σ;apply ?bm;intro o1 y Db;apply ?U;let ?j0:=y.ex;let ?fQ:=lx.ob;apply ?P;rw[?TD (?mv-1-?LH=((i-d:Nat):Int))];let ?Cn:=ok d (qe0 hd);apply#[?g,?kW,?k,?i,?_];apply#[?f8,?aZ,?L6,i-d,i-d+1,?h,y,?VG qy5 (qb4 sm3),?VG qh2 ?o2,?u ?l,LI,wV,?LG];rw[?TD (?aZ-(i-d+1)=d)]at z;show#[?g,z]};ext f5;apply ?bm;intro o1 y Db;show k _ y
def Df:?T7 [?ar,?no,"gap","i","j"] ?cL Hv:=Bj
def Tv[?A](F:?Sz ?ys ?PY Hv)[?F](Mq:Kb P w K mg ?m ?V ?wA ?uZ 4 ?GY):?Sw 5 ?cL ?BA:=by apply ?TE Df;have#[?f7,m,l,r,f,Sv,?cf,mn,mw,v0,vs,k]:=h;have#[PM,A68,WI]:=T.x_GAPS;have ?oE:=x.sm;ext ST;apply#[_,(Ad (?T1 1 ?pi ?jK) (Ad (Bu ?a0 ?h (?TL Rm (Jr (v:=?z PM) ?r A68 ?h)) (?XA 2 ?pi) (?a0a (?TZ (?XD (Bc Gy ?B ?H))) (?YX (?T4 ?X (?a1Y ?X ?H))))) (?a0a ?GE (Af (?a1h (g7 ?r ?b7 (Aa ?RG ?bE)) (?Te ?pi) (?YX ?pp)))))),?_];ext Z;apply ?Sv (?Xt ?a4 ?gY none/\?bU);{show#[?g,?eO,?g,hpa,?fC,l5a,nm,?g,?u ?s7,?T5 #[by rw[qa3,Jw];rfl,?h]]};ext aw;apply ?Sv (Ji λ ?Ec=>σ'=(?Yg o2)/\∃(d:Nat) (f:?hW) (l r:?ei),d<=5*m/\?py/\?XK H' l r);{apply#[PM,?h,#[_,WI H],?_];have Ck9:?aR:=λg σ' G=>Ji λ ?Ec=>?TO (?Yg o2) (d<=g*m/\?K0);apply rF (K:=K) (a:=PM) (xs:=?BI) Ck9 #[?T,?O,0,?d9,?l,v0,x] (λg σ G _ _=>WI G) ?_ ?_;{rintro g y σ G hy Cl;ext f;apply ?U;let ?CD:=Cl;(let hg:∃gp:Nat,y=?DV/\1<=gp/\gp<=32/\g<5:=by match g,hy with| 0,hy=>cases hy;show#[32,?kY]| 1,hy=>cases hy;show#[16,?kY]| 2,hy=>cases hy;show#[8,?kY]| 3,hy=>cases hy;show#[4,?kY]| 4,hy=>cases hy;show#[2,?kY]| g+5,hy=>simp at hy);let#[gp,?h,g1,g2,g5]:=hg;apply ?P;apply#[?k,?i,?g,?N,?_];apply Ce (lo:=0) (n:=(?hP-?Hj).toNat) (λi σ' G=>Dn λ(o3:?l5)=>?TO (?Yg (?j ?DV)) (d<=g*m+i/\?K0)) #[?eQ,?kZ,z] ?_ ?_;{rintro i σ G hi ⟨o3,rfl,d,f,l,r,hd,hv,z⟩;rw[qk8];apply ?U;let ?xR:=z.ob;apply ?P;(let hm5:g*m+m<=5*m:=?UI (show g+1<=5 from g5));apply#[?g,?Su,?k,?g,?i,?_];apply ?U;let ?Oq:=?Vf (i+gp);apply ?P;apply(?Uo (i+gp));{show#[?g,d+1,?d9,?l,o2' XX,z]};show#[?g,d+1,?I,?l,?BD,z']};rintro σ G ⟨o3,rfl,d,f,l,r,hd,hv,z⟩;apply#[_,?g,d,?d9,?_,hv,z];rw[qh6,qh3];ext d};rintro σ G ⟨o2,o3,rfl,d,f,l,r,hd,hv,z⟩;show ?T5 ?CD};apply VP λo2 o3 G jT=>?_;intro sq;have#[?kZ,z]:=jT;ext zD;apply Ce (lo:=0) (n:=(?hP).toNat) (λi σ' G=>Ji λ(o3 o4:?l5)=>?TO [?a4,?gY,o2,o3,o4] (d<=5*m+i*m/\?py/\?AS m i f/\?s1)) #[o3,?O,d,?d9,?Ew,hv,λa b ha=>?l,z] ?_ ?_;{rintro i σ G hi ⟨o3,o4,rfl,d,f,l,r,hd,hv,hc,z⟩;rw[qb8]at hi;rw[qk8];(let him:i*m+m<=m*m:=?UI (show ?aZ<=m from hi));apply#[?g,?i,?g,_,?g,#[?N,?N],?_];apply Ce (lo:=?x5) (n:=?G9) (λj σ' G=>Dn λ(o4:?l5)=>?TO [?a4,?gY,o2,?bR,o4] (d<=5*m+i*m+j/\?py/\Lat.ChainAt m i ?qV f/\?s1)) #[o4,?h,d,?d9,?Ew,hv,hc.at,z] ?_ ?_;{rintro j σ G hj Cl;ext f;apply ?U;let#[o4,?h,?kZ,hc,z]:=Cl;apply ?P;rw[?TD (?Ya (?x5+?e7) ?qV)];apply ?U;let ?xR:=z.ob;apply ?P;apply#[?g,?Su,?k,?_];apply ?U;let ?Oq:=?Vf ?qV;apply ?P;apply(?Uo ?qV);{show#[?g,d+1,?d9,?l,o2' XX,hc.skip XX,z]};show#[?g,d+1,?I,?l,?BD,hc.step ?l ?l sh.pair,z']};rintro σ G ⟨o4,rfl,d,f,l,r,hd,hv,hc,z⟩;rw[?TD (?aZ+?G9=m)]at hc;apply#[_,?g,d,?d9,?_,hv,hc.next,z];rw[qh6,qh3];ext d};rintro σ G ⟨o3,o4,rfl,d,f,l,r,hd,hv,hc,z⟩;rw[qb8]at hc;show k d f l r _ hv hc z
def Jn:?T7 [?am,?hw,?hz,"_law_row",?iW,"_law_j",?bu] ?h6 To:=Bj
def iR[?A](F:?Sz ?ox ?ox To)[?F](Rv:?UX ?op ?h6 ?Od)(L5:?TN ?lY ?xK ?Iq)[?Rv]:?Sw 5 ?h6 ?KY:=by apply ?TE Jn;let#[?zQ,?aQ,hH,hla,hd0,bw,kq]:=h;ext bY;let B8:=bw.len;let hs:=bw.sh;let h4:?wX:=?kx;let n4:=bw.kin.n4;ext SY;apply#[_,(Ad (?a0g (?Zb (?XH Rv ?w6))) (Ad (Bu ?a0 ?h ?iY (?TR ?m9) (Af (Bu ?a0 ?h ?Cm (?Te ?m9) (Ad (?a0g (?a1J ?ri ?IS Ia)) (Ad (?a0g (?a1J ?ri ?IS (?T2 Oe Ia (Aa ?ww ?G4)))) (Af (Bu ?a0 ?h ?Cm (?Ty ?m9) (?a1k (Ba Gn (?T2 Kr ?ww (?XD (?ZS ?Jn Ah))) (Cp uW ?r T.n_int ?A3 (?XD (Js Ev ?aE ?aY ?J))) ?J))))))))) (?a1W ?m9 (?ZU (?a1J ?ri (?T2 L5 ?w (Aa ?b0 ?ld)) (?a0e ?b0)) ?aS)))),?_];ext Z;ext SA;apply ?Sv (?Zu ?aP);{apply#[?k,?g,?zQ,?aQ,B8,hH,hla,hd0,bw.kin,?M1];apply ?b8;show ?IW};ext kQ;apply ?Sv (?a04 ?jq);{apply(?a0W hd #[_,?n ?GI]);have Ck8:?aR:=λm σ G=>?Vy ?RB;apply ?bp (K:=K) (a:=hd) (xs:=us) Ck8 (?YP (?eX H1)) (λm σ G _ hz=>?XI #[?I,_,g] g ?GI) ?_ ?_;{rintro m w σ G hm Cl;ext f;revert σ;apply ?f0;intro o3 o4 o5 g Db;let hml:=(?eU hm).1;obtain⟨ps,hps⟩:∃ps,hl[m]?=?j ps:=?fe;(let hgd:?t8 m []=ps:=by rw[qa1,hps];rfl);let#[D,uk,?h,hD,rP]:=Nz m w ps hm hps;let rw_:=bw.row m ?PM;let few:=bw.kin.few m ?PM;rw[hgd]at rw_ few;let ul:=?hO;let sg:=?bS g;apply(?Zv sg);have Ck7:?aR:=λi σ G2=>Ji λo4 o5=>σ=(?Xf ?aK o4 o5)/\?yt;apply ?VJ Ck7 #[_,?g,?eX G];{rintro i σ G2 hi Cl;ext f;revert σ;apply ?gr;intro o4 o5 g2 Db;rw[?f4];obtain⟨v,hv⟩:∃v,uk[i]?=?au:=#[_,?bc];obtain⟨p,hp⟩:∃p,ps[i]?=?nL:=?fe;let#[?dh,_,et0,e10,e20,e30]:=rP.2 i v p hv hp;let hpm:=?u2;let#[LI,ok3]:=rw_.ok p hpm;let#[ke1,ke3]:=rw_.key p hpm;let l1:=LI.len;let l3:=ok3.len;let q2:=?yN g2;apply ?Sv (σ'=?wU/\?v5);{apply#[?k,?g,D,uk,?i,?T3 q2 hD,?ds,t,_,?i,?T3 q2 et0,?h,a,c1,xs,?g,?UU q2,q2 _ _ e10,?l,h4,ke1,λE G3 nE g3 hE=>?RD];let g4:=?CJ;let hE':=g4 _ _ hE;rw[rw_.rnd.rnd p hpm]at hE';apply#[E,E2,[],[],?K,?u hE',?tf,?g,?_];apply ?b8;show ?T5 #[?h,?nM]};apply Gm λG3 g3=>?_;intro sq;let q3:=?Ly g3;apply ?Sv (σ'=?wU/\?Q0);{apply#[?k,?g,D,uk,?i,?T3 q3 hD,?ds,t,_,?i,?T3 q3 et0,?h,a,c3,xs,?g,?UU q3,q3 _ _ e30,?l,h4,ke3,λE G4 nE g4 hE=>?RD];let g5:=?CJ;let Af2:?q G4 E2 ?cw E2=?sU:=Ab;let hE':=g5 _ _ hE;generalize ?WR G4 E2=G5 at g5 Af2 hE';let q5:=?TM q3.trans g4 g5;apply#[?k,D,uk,?i,?pF,?ds,t,_,?i,?rs,?h,?k,D,uk,?i,?pF,?ds,t,_,?i,?rs,?h,E2,c1,_,[],?g,Af2,q5 _ _ e10,qr8,LI.n,?a2,?l,rw_.mul p hpm,λF G6 nF g6 hF=>?_];apply#[E,F,?i,?YS g6 hE',?u hF,?g,?_];apply ?Tx (by rw[rw_.fil p hpm];decide);show ?T5 #[?h,?ZE ?lr g6]};apply Gm λG4 g4=>?_;intro sq;let gg4:=?E8 g4;apply(?Zv (?yN gg4));have Ck6:?aR:=λj σ G5=>Dn λo5=>σ=?wU/\?a0b G5;apply ?VJ Ck6 #[?g,gg4];{rintro j σ G5 hj Cl;ext f;revert σ;apply ?bm;intro o5 g5 Db;rw[?FJ];obtain⟨v',hv'⟩:∃v,uk[j]?=?au:=#[_,?nU];obtain⟨q,hq⟩:?Nr:=?fe;let#[t',d1,d2,d3,?aB,et',f1,_,_]:=rP.2 j v' q hv' hq;let hqm:=?cj;let q5:=?yN g5;apply#[?k,D,uk,?i,?pF,?ds,t,_,?i,?rs,?h,?k,D,uk,?i,?pF,Bh hv',t',_,?i,?T3 q5 et',?h,c2,d1,_,?g,q5 _ _ e20,q5 _ _ f1,rw_.rnd.mul p hpm q hqm,λG6 g6=>?_];let du:=rw_.rnd.dual i j p q hp hq;apply#[?k,?h,?a1 ?bo];apply ?Cl;{rw[du];cases z:i=j;{subst z;simp};let z2:¬?aX=?e7:=?l;simp[z,z2]};show#[?g,g5.trans g6]};rintro σ G5 Cl;revert σ;apply ?bm;intro o5 g5 Db;show#[_,?g,g5]};rintro σ G2 Cl;revert σ;apply ?gr;intro o4 o5 g2 Db;show ?Mv};rintro σ G Cl;revert σ;apply ?f0;intro o3 o4 o5 g Db;show ?DF};apply Aj6 λo3 o4 o5 G g0=>?_;intro sq;let g:=?bS g0;ext S3;{apply ?HG;have Ck5:?aR:=?Ax;apply ?Um Ck5;{rintro i σ G2 hi Cl;ext f;revert σ;apply ?bm;intro o6 g2 Db;rw[?f4];let gg:=?eu;let#[k,pc]:=bw.pc i ?l;apply#[?k,?k,a,hd,la,_,xs,k,hl,lf,wu,O,?g,?ob,?b3,h4,n4,?jb gg,?Dy,hd0.same gg,pc,λD G3 m nD g3 hD ok hq=>?_];apply ?QC;(let sZ:?p G3 (?q (?WR G3 Z) Z ?DQ):=?rm);apply#[D,Z,_,[(?aX,1)],?K,?YS sZ hD,?tf,?g,?_];apply ?Cl;{rw[WS ok hq];decide};show#[?g,?E8 sZ]};rintro σ G2 Cl;revert σ;apply ?bm;intro o6 g2 Db;show ?EN};ext SS
def Nw:?T7 ?qI ?qI Fv:=Bj
def Ny[?A](F:?Sz ?oH ?oH Fv)[?F][?SV]:?Sw 6 ?qI ?Bn:=by apply ?TE Nw;let#[?c2,n,ms,?aQ,hb,hm,hn,kq]:=h;apply(?ZQ (?a1T (?a0i (B6 (N':=?Bu) (cap:=[none,?e8,?c8]) ?r ?a7 ?lz (?Sy (?XA 0 Bj2)) ?aN (?Sy (?XH Mz (Aa ?B (?a1n ?bl))))))));ext qj;have Ck4:?aG:=?Y0 (Bv ?dU ?iL (zs=?U2 ?pE ?wv ?hm) (?TJ [o,?x,?af]));apply ?UO Ck4 ?bw;{rintro i zs τ H1 hi Cl;revert τ;apply ?az;intro s1 Dv hzs o Db;let hi2:i<n:=?l;apply#[?k,?g,?c2,_,ms,?h,?dv,?g2,hm,?tV];apply#[?kr,?bz (by rw[hzs,qa3,qa3,ql2];ext d),?wl,?W,?g];rw[ql5,qb2,qb2,hzs,?TD (?cC=?aX)];rfl};rintro zs τ H1 ⟨s1,Dv,hzs,_⟩;rw[qb8]at hzs;apply#[D,?U2 ?fw n ?wv,?h,?n (by rw[Dv,hzs]),?_];rw[List.any_map];show kq _ s1
def KQ:?T7 ?cW ?cW Xe:=Bj
def lG[?A](F:?Sz ?oM ?oM Xe)[?F](L3:?T6 ?n1 ?cW ?GQ)(Pd:?Vd ?lK [?ft] ?Ou):?Sw 6 ?cW ?RU:=by apply ?TE KQ;let#[v,xs,?aQ,?b3,k]:=h;apply(?ZV (Lr (?a1D L3 ?bv) (?Ut Aw7 (?a1D Pd ?bv) cG)));apply#[?g,v,xs,?aQ,B8,?g,?_];apply ?R5;show#[?g,v,xs,?aQ,?b3,λH1 s1=>#[?h,?gR]]
def Ki:?T7 [?ar,"i",?uk] ?id Ln:=Bj
def i5[?A](F:?Sz ?rc ?EF Ln)[?F](Qe:?T6 ?oC [?ca] ?JT)[?z0](Pa:Kb P w K mg ?m ?Y ?sq ?rX 5 ?MQ):?Sw 6 ?id ?KB:=by apply ?TE Ki;have#[?f8,i,s0,I,?cf,hi,P,ht,k]:=h;ext qr;apply#[_,(Ad (?T1 2 Ki.nd Ah) (Ad (Yq ?a0 (?a13 (?a1J P8 ?H ?B) (?a1J QK ?fN ?PJ)) (Ad (?a1I (?a0m ?fN ?PJ) (?TS Pa ?Hd)) (?XO 2 Ki.nd (?a0q ?H)))) (Ad ?JJ (Ad ?JJ (Ad (?Ze (?XH Qe ?iG)) (?ZU (?TA P8 (?XC ?fN ?fN)) (?TS Dm (?XD (?a1m Rh ?bl))))))))),?_];ext Z;apply ?Za [?a4,?cg,?TB ?D1];ext aw;apply ?Sv (Kz λspot st s=>Ey ?gg (?ZC t i s) ?EH ?Mu (J9 W ?h5 st) ((?wF->st<?et)));{apply#[λm σ' G=>Ji λspot s=>Di ?gg (?TQ G i s) ?EH ?Mu (m=i-spot),#[_,0,s0,?cf,P.start,?ay,?h],?_];rintro m σ G Cl;apply ?os;intro _;apply ?U;let#[?aT,s,?h,y,hI,hs,?h]:=Cl;let#[st,hb]:=J9.ex (P.ok ?aT s hs hI);let ?j0:=y.ex;let ?fQ:=lx.ob;let ?gu:=lx.rw;let ?tD:=?fp;apply ?P;apply#[?k,?i,?g,?_];apply ?av;{(let hlt:?wF:=?Ux ?ya ?aX ?a5);apply#[?g,?ax,?g,?i5,?g,q,_,?i,?xV,?UF hlt,?g,?ax,?g,hp,?cd,?g,r,_,?i,?dr,?ji,ci,W,st,?g,UH,hb,?l,?i,?g,?_];apply ?fn;{(let hle:?et<=st:=by (let:?M6:=?bV);ext d);apply(?YT (Ji λQC s'=>Bv (σ'=[?a4,?cg,?TB (((QC:Nat):Int))]) ?CL (I QC s') (QC=?cG)));{rintro σ' G' ⟨QC,s',rfl,z1,z2,rfl⟩;show#[i-?cG,?No,?cG,s',?h,z1,z2,hlt,?h]};apply Ak (t:=?s2) (λσ' G'=>?gg/\∃s',?CL/\I ?cG s') ?_ ?k2;rotate_left;{apply#[?g,?ax,?g,?i5,?g,q,_,?i,?xV,?UF hlt,?g,?ax,?g,hp,?cd,?g,r,_,?i,?dr,?ji,ci,W,st,?g,UH,hb,?l,?h,?g,?_];apply ?bF ?xh ?xh;{(let he:?et=st:=?W4 ?pU ?oJ ?xA);apply#[?g,?kW,?k,?_];apply#[?f8,?aT,i,s,I ?cG,?h,y,hlt,hi,P.meet ?aT s hlt hI ?C5 (by rw[he];show hb.2.1),λG' s' z1 z2=>?_];show ?Vi #[?h,s',z1,z2]};(let he:¬?et=st:=?Tf (?pU=?oJ) ?xA);show ?Vi #[?h,s,y,P.skip ?aT s hlt hI ?C5]};rintro _ G' ⟨rfl,s',z1,z2⟩;show#[?g,?i,?cG,s',?h,z1,z2,?h]};(let hle:¬?et<=st:=?Tf ?M6 ?bV);show ?T5 #[?Ss,λ_=>by show ql0 hle]};(let hlt:¬?wF:=?Tf (?ya<?aX) ?a5);show ?T5 #[?Ss,λz=>?dB z hlt]};apply bK λspot st s G y hI hs hb hex=>?_;intro sq;ext f6;let ?Hy:=y.ex;let ?fQ:=lx.ob;let ?gu:=lx.rw;let ?mC:=lx.bk;let ?Dk:=lx.refs;let rb:=lx.ne;let#[ci,rci,vI,mci,UH]:=?fp;let#[di,rdi,edi,mdi,hdi]:=?BG;apply ?P;(let six:∀l:Nat,i<l->seqIndex? ?lm l=?j i:=λl hl=>by unfold seqIndex?;simp only[?TD (¬?lm<0),if_false,qb8];first | (rw[?mc]) | (rw[?b5 ?l]) | (ext aU));apply ?Sv (Ft ?gg ((∀a,a≠r->H' a=G a)) (?XJ r (?Zx ci ?dK)));{apply#[?g,?ax,?g,hp,?cd,?u #[?aB,?dr],?k,?ax,?g,hp,?cd,?u #[?aB,?dr],?g,r,_,_,i,?g,?h,?iR,?N,six _ ?ke,vI,?_];apply(?Z5 r (by rw[qm5 ?ke,qa3,?fY];show ?O5));rw[qm5 ?ke,qa3,?fY];show ?Wn hi};apply pW λG1 e1 r1=>?_;intro sq;apply ?Sv (Ft ?gg ((∀a,a≠b->H' a=G1 a)) (?XJ b (?Zx di ?ub)));{let hp1:G1 p=_:=(e1 _ pr).trans hp;let b1:G1 b=_:=(e1 _ rb.symm).trans ?tX;apply#[?g,?ax,?g,hp1,?bG,?pT,l2,?TW b1,?k,?ax,?g,hp1,?bG,?pT,l2,?TW b1,?g,b,_,_,i,?g,?h,b1,?N,six _ ?of,edi,?_];apply(?Z5 b (by rw[qm5 ?of,qa3,xb.1];show ?O5));rw[qm5 ?of,qa3,xb.1];show ?Wn hi};apply pW λG2 e2 b2=>?_;intro sq;let r2:=(e2 _ rb).trans r1;let e02:∀a,a≠r->a≠b->G2 a=G a:=λa h1 h2=>(e2 a h2).trans (e1 a h1);let hp2:=(e02 _ pr pb).trans hp;let qr:q≠r:=λz=>lx.nr ?Og;let qb:q≠b:=λz=>lx.nb ?Og;let q2:=(e02 _ qr qb).trans y.st;have#[ya,ma]:=xa.move hi hs rci r2 λa ha=>e02 a (?y4).1 (?y4).2.1;have#[yb,mb]:=xb.move hi hs rdi b2 λa ha=>e02 a (?mb).1 ?zw;have ?NI:=?TL ya.row ?kE;(let Bq9:Lat.moveR s.1 i ?aT ?aT=?h5:=by rw[Lat.move_row];unfold Lat.mvI;rw[?mc,?c7]);rw[Bq9]at hcs;apply ?Sv (?gg/\?ZC (?OF t ?aT st) ?aZ ?Qr);{apply#[?g,?ax,?g,hp2,?bG,?mL,l3,?TW q2,?k,?ax,?g,hp2,?cd,?g,r,_,?i,?n r2,Bh (by rw[gI,i9]at ecs;show ecs),cs,W,st,?g,hcs,hb,?ce];apply#[q,_,?aT,?g,?h,q2,by rw[Bz];show hs,?iq,?T5 ?jn];rw[nJ hs];let qp:p≠q:=F8 hp y.st ?eY;apply#[#[r,b,#[#[dx,fs,by rw[Aj qp];show hp2,?cK],#[_,?ZN ya.put qr.symm ?Cq,?VT ?Cq],#[_,?ZN yb.put qb.symm ?JG,?VT ?JG],rb,lx.nr,lx.nb,?lC],f1,f2],Ab,λa o e=>?_,y.fp,y.fq,y.mq,#[vE,ZJ,?l]];{cases haq:a=q;{rw[haq,Ab]at z;cases z};rw[Aj haq,e02 a (λe=>lx.nr ?PZ) (λe=>lx.nb ?PZ)]at z;show lx.nn a ha z};rw[?Wp e y.fq,e02 a (Ap e f1) (Ap e f2)];show y.same _ _ e};apply Gm λG3 z=>?_;intro sq;have#[r3,b3,l3x,_]:=z.ex;have#[dx3,fs3,hp3,?cK]:=l3x.ob;have#[as3,xa3,na3]:=l3x.rw;have#[c3,_,ec3,_,hc3]:=?TL xa3.row ?kE;let yF:(?Qr).1 ?aT=?h5:=Bq9;rw[yF]at hc3;(let est:?OF t ?aT st ?aT=st:=by unfold Lat.insT;rw[?mc,?c7]);apply#[?g,p,?Y,dx3,fs3,?g,hp3,?cd,?g,r3,_,?i,?n xa3.2.1,Bh ec3,?g,p,?Y,dx3,fs3,?g,hp3,?bG,?mL,l3,?g,q,_,?i,?n z.st,?UF (qk1 hs),c3,_,?i,hc3,Bh (by rw[est];show C7 hb.2.2),?i,?g,?_];apply ?kk;{(let h5:s.1 i st<0:=?hQ);apply#[?g,p,dx3,fs3,?h,hp3,?Lt,?g,?aH,?gb];let s1:?p G3 ?yo:=?eB;let hT:?U8 ?yo ?KN:=#[T1,?g,?ag,?xE];generalize ?yo=G4 at s1 hT;apply#[p,?eH,?Y,r3,b3,_,n,W,_,_,?KN,?h,?j7,l3x.keep s1,hT,?kE,?kE,?N,λr' b' G5 sx n1 n2 w=>?_];apply ?Va ((?a0X z.redo w).re ?_);rw[Lat.insS,?b5 ?LK];rfl};(let h5:¬s.1 i st<0:=?hQ);apply ?Va (z.re ?_);rw[Lat.insS,?ap ?LK]
def Va:?T7 [?ah,?ba,?dM,?bb,?b9] ?gy CA:=Bj
def TR[?A](F:?Sz ?pw ?pw CA)[?F](F6:?Q P w K mg ?m ?oH ?qI 6 ?Bn)(Xt:?TF ?m8 ?yK ?Aw):?Sw 7 ?gy ?CC:=by apply ?TE Va;let(?WA #[kc,AD,hch]):=h;let ?iv:=T.x_LEVELS;apply(?ZR (?XP (?T2 F6 ?w ?Ah) ?he) (Ad (?T1 2 Va.nd Ia) (?a0t (?Sx 3 Va.nd (?XA 4 Va.nd)) (?T2 Xt ?H (Aa ?gT ?k6)))));ext Z;apply#[?k,?c2,4,ms,?aQ,hb,hm,?a2,?BU];let hany:((?fw 4).any ?wv)=true:=?xF #[kc,?yj AD,hch];apply ?bq;rw[hany];ext qs;let hL1:=?dv;let hb1:=?g2;apply ?aW;let AU:?l8:=Ap hb1 hD;let s2:?Xy ?PG:=?eR;let hL2:=?a8 s2 hL1;let hb2:=?Tw hb1;generalize hH2:?PG=H2 at s2 hL2 hb2;(let Je:H2 D=?sU:=by rw[←hH2];show Ab);apply ?Tc b ?bM hb2;apply ?xp;have Ck3:?aR:=?Xb (?Zm (Bv ?OQ ?Lv (G D=?T8 ?uT) ((?W2 (?gz->H2 c=?ci->?tb)))));apply ?Zs ?bM Ck3 (?TK ?BZ);{rw[?jI];show Je};{intro c q n1 n2 e;rw[?h3];show e};{rintro i kk x σ G p hx Cl hp;ext f;revert σ;apply ?eZ;intro o1 o2 BE Cu UD Db;let ?cy:=?cE;let npb:b≠p:=Ap BE hp;let npD:?s0:=Ap Cu hp;let hlt:?hl:=?fR;(let hqd:?j3=q:=?ES);let hpart:=qe3.mp hch q ?cj;(let hin:0<=q.1/\q.1<?g6:=by unfold Kd at hpart;rw[qc2]at hpart;show KY hpart.1);let sp:?Vs G G p:=?bk;(let LZ:?OZ:=by (let e1:Qu b H2 ?vu:=?lQ);let l1:=?hH e1 hb2 hL2;(let d1:(?vu) D=?sU:=by ext fA;show Je);(let e2:Qu D ?vu G:=?D3);show ?Wv []);let#[us,v,VF,hat,tv]:=?cF (?a8 sp LZ) hin.1 hin.2;apply ?eL;(ext Rw);let hbl:=gC h4 ms i;apply#[?k,?g,a,us,_,v,?K,VF,hat,?g,D,v,?uT,?hL,q.2,?h,?UV sp,tv,?l,λG2 sG2 MA=>?_];apply#[_,?g,sG2 _ _ AU (?Uv BE),?_,?uR];{rw[MA];exact ?Wm (PL ?uT ?uD (?j3).2);rw[hqd]};show sG2 c r n2 (?Uv ?rP)};ext f5;apply ?eZ;intro o1 o2 BE Cu UD Db;rw[J7]at Cu;apply#[BE,?g,kq D _ ?Rk ?jZ ?rw];ext SN;show UD c q z (Ap ?hf hD) (?Tw ?hf)
def Q4:?T7 [?bK,?be,?oO,"stairs","i",?hA] ?rU c7:=Bj
def nZ[?A](F:?Sz ?pk ?pk c7)[?F](j9:MV P w K mg ?m ?Y ?dC 2 ?O0)[?SB](Lz:Kb P w K mg ?m ?Y ?rc ?id 6 ?KB)(Ly:Kb P w K mg ?m ?Y ?s4 ?cL 5 ?Ja):?Sw 7 ?rU ?QQ:=by apply ?TE Q4;have#[v,L,r,b,sv,N,n,w,M,P,PB,J,?h,hv,lx,hn,hw,TJ,j0,jt,k]:=h;have#[ta,?aD,aW,Xs,Nz]:=?fy;ext qm;have#[ps,xp,np]:=lx.rw;have ?mC:=lx.bk;let nN:?RH:=?VY lx.nn;apply#[_,(Ad (Am (i:=3) Q4.nd (P7 j9 hr ?r T.m_Stairs (?a0d (B6 (N':=?zs) (cap:=?PV) ?r ?a7 (iL (K:=K) ?r ?iT (?a1n ?Rr)) (?ZO XA XA) ?aN (?Sy (?a1N ?w ?B))) (?UJ ?Rr)))) (Ad (Bu ?a0 ?h ?nt (?Te Q4.nd) (Ad (Bw (C6 ?X ?bG Lz hr ?k6)) (Af (Bw (P6 ?X ?bG Ly hr))))) (Ad (?a1a 5 Q4.nd (P7 No hr ?r ?pt (?a0d (?ZX ?Py (?a1Q ?KO Fm)) ?R7))) (?XB (?a1m (?ZX ?Py ?ra) ?e2))))),?_];ext Z;apply ?Sv (Ji λp q=>?Y6 none none/\SX ?Y H H' p q ?sK n ?g3 ?gV 0 (?Db,PB));{apply#[?k,L,?M,dx,fs,?g,hp,?dL,?mF,l1,ta,r,?h,#[_,aW],#[_,?Mz],?aW];apply HA (K:=K) (a:=ta) (b:=r) (xs:=us) (ys:=ps.map ?cH) (n:=n) (by rw[Xs,qa3,xp.1,qz5]) (?Y0 (Dn λcs=>Bv ?yr ?yq (?dO H H1 D cs ?g3 ?Db) ?O7)) #[[],?K,?tg hD,?T,?O] (?UG (by let ?MJ:=hz;show#[?dm aW,?dm ?Mz])) ?_ ?_;{rintro i x y zs τ H1 pr hx hy ⟨cs,rfl,hcl,R,o1,o2,rfl⟩ hpr;apply ?U;let#[hi,bx,?h,hbx]:=Nz i x hx;let#[cy,_,ey,_,hcy]:=?TL xp.row hi;apply ?P;rw[ey]at hy;cases hy;let sp:?Xy ?sz:=?xI;apply ?je;apply#[?k,bx,cy,?i,sp.seq (?dm hbx),sp.seq (?dm hcy),Bl (by rw[Bz,Bz];ext d),?ex];let sE:?p ?sz (?Tv ?sz E (?Rl++VI n (P i))):=?hV;apply#[?TY sE sp R.at,?d1,cs++[E],?gs,?AE,?_,_,?g];apply ?pV (sp.free hE) (?uV sE) ?_;rw[hcl,Ab,pN (h:=?ze w M P i) (?Z9 (Lat.beside_lo hc)) (λa _=>Lat.beside_hi w M P i a)]};rintro zs τ H1 ⟨cs,rfl,hcl,R,_⟩;let hp1:=?Bb;apply#[?g,L,?M,dx,fs,?g,hp1,?dL,?pu,l2,b,?g,?Xx ?d2 ?tX,?Dn];intro p zN np' ndx Ax4;let s2:?Xy ?JU:=?L hB;let hB2:?q H1 B ?sT B=?rA:=Ab;generalize ?JU=H2 at s2 hB2 np' ndx;let s3:?a09 ?J2:=?mA np';let NU:=?TM ?pN s2 s3;let f2:∀a,?C1->?gn:=λa e=>(?pN s2).free e;apply#[p,zN,_,?g,Ab,λq H4 fs' hq hfs sx hq4 Sk=>?jn];generalize ?J2=H3 at s3 NU hq sx;let f3:∀a,?OO->?gn:=?zc;let st:?Wh H2:=?WK (Ap e np');let xc:=(?xJ s2);let zP:TA H2 B bs n n PB:=#[xb.1,hB2,λi c e=>?TY s2 ?d2 (?vq i c e)];let hHB:?IA:=?K4 hB;let Cf5:=?ND;let q2:?Ti H2 q:=?oI hq;let nM:∀a,?Wg H2->?qX->¬?GV:=λa h1 h2 h3=>h3.elim (λz=>h1 (z▸q2)) h2;apply ?T5 #[p,q,?h,#[#[D,B,#[#[zN,fs',Sk,?ad,?_,?ht,?_],#[cs,xc.same st,?cP],#[bs,?rq st,?cP],?ad,?_,?lC],?j8,hHB],hq4,λa o e=>?Pc,f2 _ np',f3 _ hq,?dF,#[?N,?ay]]];{rw[hfs];(ext bB)};{rw[hfs];(ext bB)};{rw[hfs];(ext bB)};{rw[hfs,As,?dI,As,?dI,As,?dI];rfl};{rw[hfs];show ?Yc (qa4 ?ng (?Tu (qh2 ?ng)))};{apply ?U;let ?ls:=?la;let ?nu:=?JW;apply ?P;show#[z2,Ap z3 hB,nM _ (by rw[?Tw z3];show ?kD) ?R2]};{let:=?vI a ha;apply#[λz=>?fG ?xm,λz=>?fG (z▸hHB),nM a (zP.there.2 a ha) ?Km]};{show Ap R.at hB};{show nM D (by rw[Cf5];show ?kD) (nN _ ?j8)};{show nM B (by rw[hB2];show ?kD) (nN _ hHB)};rcases ha with rfl | ha;{rw[hq4]at z;cases z};cases e:H a with| none=>show ?Qu| some o=>rw[?Pc]at z;cases z};apply VP λp q H1 x0=>?_;intro sq;apply ?Sv (?Zh H' n n);{apply#[?g,ta,?aD,?u (x0.same.seq aW),?g,?N,?_];apply ?a0v ?IQ (λi σ' G=>?Zh G i i) #[?T,_,?g,x0,j0 _];{rintro i σ G hi Cl;revert σ;apply Ao3 ?_;intro o4 t s y hJ Db;rw[qb8,Xs]at hi;rw[qk8];apply ?U;let#[I,hP,hD]:=TJ.step i t s hi hJ;let#[r3,b3,ly,_]:=y.ex;let#[dx3,fs3,hp3,?I,m4,_]:=ly.ob;apply ?P;apply#[?g,p,dx3,fs3,?h,hp3,?zp,?g,H,p,q,_,n,?g3,t,i,s,I,?h,y,hi,hP,jt i t s hJ,λG1 spot st s' hs hI hb hex z=>?_];apply ?U;let#[d1,d2]:=hD ?aT st s' hs hI hb hex;let#[r4,b4,lz,_]:=z.ex;let#[dx4,fs4,Sk,?I,m5,_]:=lz.ob;apply ?P;apply#[?g,p,dx4,fs4,?h,Sk,?AC,H,p,q,_,n,?g3,_,i,?g,z,d1,λG2 z2=>?_];show#[_,_,?g,z2,d2]};rintro σ G Cl;revert σ;apply Ao3 ?_;intro o4 t s y hJ Db;rw[qb8,Xs]at y hJ;show ?T5 #[o4,t,s,?h,y,hJ]};apply Aj5 λo4 t s G y hJ=>?_;intro sq;have#[r,b,ly,f1,f2]:=y.ex;have ?fQ:=ly.ob;have ?gu:=ly.rw;have ?mC:=ly.bk;let s0:=y.same;apply ?Sv (Ji λ(L' E:Addr)=>Di (?Y6 o4 (rS L')) ?fk ?KR ?iS (LX H' ?M L' E b ?T n n ?s8 N));{apply(?Wf hp ?dr ?ex);let xa':=?iR;have Ck2:?aG:=?Uc (?dO G G1 E cs n ?F9);apply ?Uu Ck2 #[[],?K,?tg hE,?O];{rintro i x zs τ G1 hx ⟨cs,rfl,hcl,R,o1,rfl⟩;(ext SG);apply ?U;let ?IR:=?fp;apply ?P;rw[ec]at hx;cases hx;apply(?WY c (?dm hc) ?Mg);let sF:?YY ?Lf ?T:=?L hF;apply ?CB;apply ?Re;rw[hcl,Ab,Ah9]};rintro zs τ G1 ⟨cs,rfl,hcl,R,_⟩;rw[qa3,?fY]at hcl;let hp1:=?Bb;apply#[?g,?ax,?g,hp1,?bG,?pT,l2,?_];intro L' jI nL ndx Ax4;let s3:?a0U ?w4:=?mA nL;apply#[L',jI,?M,_,?g,?dF,Ab,λH4 fs' hfs hH4=>?jn];(let sx:?bi L' ?w4 H4:=by rw[hH4];ext Sk);(let hL4:H4 L'=?j (?W8 fs'):=by rw[hH4];show Ab);clear hH4;generalize ?w4=G3 at s3 sx;let st:?Wh G1:=?WK ?tC;let nN':?Yp G ?qX:=λa e=>nN a (?jy e);apply ?T5 #[L',E,?h,?pN st,?jy (?K4 nL),?jy ?j8,#[#[jI,fs',hL4,?ad,?_,?ht,?_],#[cs,?xJ st,?cP],#[bs,(xb.same ?d2).same st,?cP],?_,nN' _ ?j8,?_,?lC]];{rw[hfs];(ext bB)};{rw[hfs];(ext bB)};{rw[hfs];(ext bB)};{rw[hfs,As,?dI,As,?dI];rfl};{rw[hfs];show ?Dx};{apply ?U;let ?ls:=?la;let ?nu:=?JW;apply ?P;show#[z2,λz=>?QP ?Bi,nN' _ z1]};{show#[λz=>?vI a ha ?xm,?zw,λz=>?Km ?Bd]};{show λz=>?QP ?xm};{show λz=>ly.nb ?Bd};cases e:H a with| none=>show ?Qu| some o=>rw[?TY st ?d2 (s0 _ _ e)]at z;cases z};apply Aj7 λL' E G4 s4 fL fE lx4=>?_;intro sq;let Sk:=?Uw hp;let xa':=?Uw ?iR;apply(?Wf Sk ?LT ?aW);have Ck1:?aG:=?Uc (?dO G4 G1 D cs w (λx a=>s.1 x a));apply ?Uu Ck1 ?jB;{rintro i x zs τ G1 hx ⟨cs,rfl,hcl,R,o1,rfl⟩;(ext SG);apply ?U;let ?IR:=?fp;apply ?P;rw[ec]at hx;cases hx;apply(?WY c (?dm (s4.seq hc)) ?Mg);let sF:?YY ?T ?Lf:=?L hF;apply ?CB;apply ?Re;rw[hcl,Ab,Bs8]};rintro zs τ G1 ⟨cs,rfl,hcl,R,_⟩;rw[qa3,?fY]at hcl;apply(?Wx ?Kw);let s5:?a0U (?TG G1 tp ?Ap):=?L htp;let s45:=?pN s5;show k tp D L' E b cs t s _ (?TM ?kG s4 s45) hJ ?ag (?xJ s5) (lx4.keep s45) ((?kG s4).free ?j8) fL fE f2
def Tf:?T7 [?ah,?ba,"edge"] ?gy Oq:=Bj
def CI[?A](F:?Sz ?qE ?qE Oq)[?F][?SZ]:?Sw 8 ?gy ?Ox:=by apply ?TE Tf;let#[?c2,k,c,?aQ,?b3,hb,AD,hc,hz,kq]:=h;let h4:=?kx;let en:=YQ hs hc hz;apply(?ZR (?T1 2 Tf.nd (?XH Vg ?cl)) (Af (?a0j V2 (Av uV ?bO qf7 ?bl) ?he)));ext Z;apply ?Sv (Dn λ ?bD=>?a0x [?x,?af,?aK] ?Ac);{show#[?k,?c2,c,?aQ,hb,?Tu hc.ok.len,h4,#[k,AD,hc.chain],λD H1 nD s1 hD=>?T5 #[D,?h,s1,by rw[hD,en]]]};apply Sy λD H1 s1 hD=>?_;intro sq;apply#[?g,D,?lX,?h,hD,?i,?g,?_];apply ?b8;show kq H1 s1
def Ll:?T7 [?ah,"k","below","columns"] ?fV Nd:=Bj
def AS[?A](F:?Sz ?ph ?ph Nd)[?F][?kM][?qi][?kN](Uh:?T6 ?n9 ?p3 ?AA)[?SZ]:?Sw 8 ?fV ?M0:=by apply ?TE Ll;let#[a,xs,k,?aQ,B8,h4,h0,h5,kq]:=h;let ?iv:=T.x_LEVELS;apply#[_,(Ad (Bw (?T2 Ch ?B (?XD (?a0q ?Fr)))) (Ad (?a0h 2 Ll.nd (?T2 By ?w (?XD (?a1G ?B)))) (Ad (Mm (N':=?B1) (cap:=[none,?hr,?e8]) (i:=3) Ll.nd ?r ?eK ?r ?a7 (?TL Bt ?su) (?Sy (?XA 0 Az5)) ?aN (?Sy (?a1D Uh (?a0d ?B (Ai Vg hr (?ZT ?H (?a1e ?w Ah Yr) Ac)))))) (?XB (?T2 Du ?X ?wK))))),?_];ext Z;apply#[?g,?i,k,5,?h,h0,h5,?_];apply ?TH [?x,?bL,none,none] ?bU;ext aw;apply ?Sv (Dn λ(B:Addr)=>Ft (?YA B none) ?aP (?XJ B ((?qb).map ?S)));{apply#[?k,?i,a,?f2,xs,?aQ,B8,λB H1 hB s1 hB1=>?_];show ?T5 #[B,?h,s1,hB1]};apply Sy λB H1 s1 hB=>?_;intro sq;let hL1:=?dv;let bl:?qh<=1000:=?sE;let cl:?H1:=?sE;apply ?Sv (Ji λ(C:Addr) ?wb=>Ft (?YA B (rS C)) (as.length=?pC) (?dO H1 H' C as ?qh ?GJ));{apply#[?k,a,k,?di,hL1,B8,λP H2 hP s2 hP2=>?_];apply#[P,?h,(?YF hP2),?aW];have Ck0:?aG:=λi ys τ G=>Dn λ ?wb=>Bv ?oT ?oB (?dO H2 G D as ?qh ?GJ) (?TJ [o,rS B,?x]);apply Cs (K:=K) (a:=P) (xs:=?UY ?jV) Ck0 ?jB (?a0J #[?I,R,_] ?d2 hP2) ?_ ?_;{rintro i x ys τ G hx ⟨as,hal,rfl,R,o,rfl⟩;(let hi:i<?pC:=?gE);(let hxv:x=?o ?sf:=?yb);subst hxv;(let hmem:?sf∈?jV:=by rw[qa1,?bc];show qd6 hi);let ?MG:=Cn hmem;generalize hpe:?sf=pl at q0 q1 q2;let Cb0:Jv [] [(?nG pl,?S 1)]=?Ck:=rfl;let sG:=?cI ?d2;apply#[?k,λe he=>#[?g,Ab,[(?nG pl,?S 1)],?h,?gP]];rw[Cb0];(let e3:?q (?WR G e) e ?rx=?oY:=?Tp e);rw[e3];let g1:?a0b ?oY:=?n5;let he1:?ZM ?oY e ?rx:=Ab;generalize ?oY=G1 at g1 he1;(let hl4:?Gy<=4:=by rcases Gz (l:=xs) (i:=pl.toNat) (d:=[]) with z | z;{show h4 _ z};rw[z];show ?ay);(let DA:chainB xs k ?lN=true:=by unfold chainB Kd;rw[List.all_cons,List.all_nil,Bool.and_true,qc2];apply#[?_,?cq];exact(?ac (0<=pl)&&?ac (pl<?g6)&&?ac (Ci ?Gy=k))=true;rw[qf0 q0,qf0 q1,qf0 q2];rfl);(let hk3:k<4:=by rw[←q2];unfold Ci;split<;>ext d);apply#[a,e,xs,?lN,?h,?a8 ?qA hL1,he1,?cq,h4,#[k.toNat,?l,by rw[?L9];show DA],λE2 G2 ZL g2 Af2=>?_];apply#[B,E2,?qb,Ca xs ?lN,?h,?T3 (?ZE ?qA g2) hB,?u Af2,bl,λD2 G3 Je g3 BG=>?_];let gG:=?vd;apply#[gG _ _ R.at,?d1,?zz,?HV,?gs,?pV (?X6 ?e6 Je) gG ?_,?g];rw[BG,Ae2,hal,hpe];congr 3;refine FZ;intro i' _;show dW xs pl _};rintro ys τ G ⟨as,hal,rfl,R,_⟩;rw[qa3]at hal;show ?T5 #[D,as,?h,hal,R.earlier s2]};apply Aj8 λC as H2 hal R=>?_;intro sq;apply#[?k,B,?g,?Xx ?d2 hB,?uY,?pC,?qh,_,by rw[qa3];rfl,R.rep hal,cl,bl,λD PK H3 A45 R3=>?_];show kq D PK H3 A45 (R3.earlier (?bS ?d2))
def Mh:?T7 [?ar,"height","by_rows","by_columns"] ?cL Ti:=Bj
def iO[?A](F:?Sz ?uA ?Ff Ti)[?F](Za:?Q P w K mg ?m ?pk ?rU 7 ?QQ)[?kN]:?Sw 8 ?cL ?BQ:=by apply ?TE Mh;have#[?f7,M,l,r,ns,Nx,?cf,ok,k]:=h;have ?oE:=x.sm;ext Sa;have ?sm:=x.li;replace hrep:=?ot;have ?FB:=J0 hrep;have#[J1,T1,j10,j1t,j1n]:=ok.ex;let Bm0:=?tN;replace hq:=?Gs;apply#[_,(Ad (?T1 1 Mh.nd ?jK) (Ad (?T1 2 Mh.nd (?XH Za (?ZT ?bA ?bA ?fF))) (Ad (?a0h 3 Mh.nd (?XH Za (?ZT (?T2 Du ?bx ?fF) ?B ?fF))) (Ad (?Yv Du ?km) (?a07 ?bx ?km))))),?_];ext Z;apply ?Sv (?Yz none none/\?bU);{apply#[?g,?b2,fs,?g,?i6,ta,?aD,?dn,?T5 #[by rw[Xs];rfl,?h]]};ext aw;apply ?Sv (MX λ(tp D L' r1' b1':Addr) ?wb ?sV ?tG=>EI (?Yz ?bh none) ?aP (J1 n t s) (?ZH tp ?Ap) (TA H' D as n w s.1) (?YW L' ?s8) ?KR (?Yb H r1') (?Yb H b1'));{apply#[?g,?b2,fs,?g,?i6,?g,?b2,fs,?g,hp,?b6,?nB,l2,?g,?b2,fs,?g,hp,?gM,l3,?jW,L,r1,b1,?T,_,n,w,M,l.1,l.2,J1,?h,Bm0,lx,vE,ZJ,T1,j10,j1t,λtp D L' r' b' as t s H1 s1 hJ hT xD lx1 _ fL fr fb=>?_];show ?T5 #[tp,D,L',r',b',as,t,s,?h,s1,hJ,hT,xD,lx1,fL,fr,fb]};apply Aj3 λtp D L' r1' b1' as t s H1 s1 hJ hT xD lx1 fL fr fb=>?_;intro sq;have#[J2,T2,j20,j2t,j2n]:=j1n t s hJ;let hp1:=?ju;apply ?Sv (MX λ(tp2 D2 R' r2' zO:Addr) (PK:?jD) (t2:?Ls) (s2:?ei)=>EI (?Yz ?bh (rS tp2)) ?jq (J2 w t2 s2) (?ZH tp2 [?ed,?D6]) (TA H' D2 PK w n s2.1) (LX H' ?M R' r2' zO ?T w w (λx a=>s2.1 x (n+a),s2.2) ?jh) (?Yb H1 R') (?Yb H1 r2') (?Yb H1 zO));{apply#[?g,tp,_,?i,hT,?h,?g,?b2,fs,?g,hp1,?b6,?nB,l2,?oy,n,w,s.1,?h,xD.rep,?N,λF fas H2 hl2 R2=>?_];let hp2:=?gw _ _ hp1;apply#[?k,?b2,fs,?g,hp2,?b6,?jx,l4,?z F,R,r2,b2,?T,_,w,n,(λi j=>s.1 j i),r.1,r.2,J2,?h,R2.rep hl2,ly.keep (?bS ?gw),ZJ,vE,T2,j20,j2t,λtp2 D2 R' r' b' PK t2 s2 H3 s3 hJ2 hT2 xD2 lx2 _ fR fr2 fb2=>?_];show ?T5 #[tp2,D2,R',r',b',PK,t2,s2,?h,?nV s3,hJ2,hT2,xD2,lx2,?nc fR,?nc fr2,?nc fb2]};apply Aj3 λtp2 D2 R' r2' zO PK t2 s2 H3 s3 hJ2 hT2 xD2 lx2 fR fr2 fb2=>?_;intro sq;let hp3:=?Y5 hp1;let zL:=?hG hT;apply#[?g,tp2,_,?i,hT2,?h,?g,?ed,w,n,s2.1,?h,xD2.rep,?N,λE eas H4 hl4 R4=>?_];let s34:=R4.same;let Sk:=s34 _ _ hp3;let MW:?D8:=(?TM x.same.trans s1 s3).trans s34;let n4:=(?bS ?GP) _ _ x.nu;(let B46:Rep K (Y8 H4 ?jh) ?gf (dT n w λi j=>s2.1 j i):=R4.hid hl4 (?Wj (by cases ha;rw[?Z2 ?vG x.nu]at z;cases z)));let hT4:=?ER zL;let Ce1:=?ER hT2;(let ex:∀a,?Jv->?Wg H4:=?VT (by ext zL;{rw[n4];show ?kD};{let ?i0:=lx2.rw;show ?AB};let ?i0:=lx2.bk;show ?AB));let z1:LX H4 ?M L' r1' b1' ?T n n ?s8 (λa=>?Jv):=lx1.more ?GP (?VT (by ext zL;{show ?u ?dF};{show ?a1 fr2};show ?a1 fb2)) ex;let z2:=lx2.keep s34;let npL:p≠L':=Ap hp fL;let npR:p≠R':=Ap hp1 fR;(let LR:L'≠R':=λz=>by let ?J0:=lx1.ob;rw[z,fR]at q;cases q);apply#[?g,?b2,fs,?h,Sk,?b6,?sa,?ce];let sx5:?Yj H4 ?vl:=?d5;let lY:?q H4 p ?xM p=?j ?xM:=Ab;let kp5:Kp H4 ?vl:=Kp.upd;let e1:?Kp=fs.length:=P0 l1;generalize ?vl=H5 at sx5 lY kp5;let hT5:=qC hT4 Sk sx5;let Ce0:=qC Ce1 Sk sx5;apply#[?g,tp,_,?i,hT5,?h,?g,?b2,?g,lY,?gM,?ce];let e2:?Po=?Kp:=P0 (x:=?vJ) (by ext qo;show l3);let jX:?Yj H5 ?r3:=?d5;let hp6:?q H5 p ?vE p=?j ?vE:=Ab;let kp6:Kp H5 ?r3:=Kp.upd;generalize ?r3=H6 at jX hp6 kp6;apply#[?g,tp2,_,?i,qC Ce0 lY jX,?h,?g,?b2,?g,hp6,?b6,?jx,?ce];let e3:(?Vu ?fx R' ?LQ).length=?Po:=P0 (x:=?z R) (by rw[As,?hd,As,?hd];show l4);let sx:?Yj H4 ?Mc:=?ch (sx5.trans jX);let kp:Kp H4 ?Mc:=?TM kp5.trans kp6 ?cY;let g0:?Yq ?gn:=?VN x.same.free;let g1:?Yq ?PC:=?VN ?rt;let npn:nm≠p:=F8 x.nu hp ?eY;apply k L' R' _ _ _ _ (j2n t2 s2 hJ2) #[#[?gf,dx,_,?W,?ad,?ad,?ht,?l,λM' e=>by cases e;show Ci2 (p:=p) (dx:=dx) (C:=C_Work) B46 (by rw[DC ?Qa];show Sk) (λa o ne e=>by cases z:a=nm;{rw[UE z]at e;cases e};rw[DC z]at e ⊢;show sx _ _ ne e)],#[r1',b1',r2',zO,z1.x Sk npL sx kp,z2.x Sk npR sx kp,g0 _ fr,g0 _ fb,g1 _ fr2,g1 _ fb2],sx _ _ npn n4,sx.same MW x.fr.1,#[x.fr.1,g0 _ fL,g1 _ fR,?MO],?Ci,?oE];ext i4;ext i4;ext i4;ext i4;ext i4;(iterate 3 ext SU);show l6 m hm
def Na:?T7 ?id ?cL Jq:=Bj
def Xq[?A](F:?Sz ?rr ?Cf Jq)[?F](Oc:?Ul ?uA 8 ?BQ)(Rq:?T6 ?lb [?bK] ?P0):?Sw 9 ?cL ?L1:=by apply ?TE Na;ext f6;let#[?f7,M,l,r,U,?cf,ok,nx,k]:=h;let sm:=x.sm;let#[_,dx,fs,hp,?I,_,_,l6,_]:=x.ob;apply ?P;apply#[_,(Ad ?Dr (Ad (Yq ?a0 (?Zb (?XH Rq ?fF)) (Af ?Dr)) (Af (Bu ?a0 ?h (?TZ (?XD (Av (UU ?r) T.n_min UY (Aa ?jK ?fF)))) (?XA 1 Na.nd) (?ZU (?TA Gn ?Ra) (?a0r ?bA (?XD ?Ra))))))),?_];ext Z;apply ?Sv (?Yo ?Nd);{show#[?g,p,dx,fs,?h,hp,?Bs,?f7,M,l,r,[],?g,x,ok,λL' R' M' l' r' H' #[m,hu] y=>?T5 #[?h,L',R',m,M',l',r',hu,y]]};apply Gm λH1 jT=>?_;intro sq;have#[?zT,x]:=jT;clear ok hp l6;apply ?Sv (?Yo (?zh/\?Nd));{apply#[λm σ' G=>?mO/\∃L R M l r,?t1/\?TT G [],#[m,?zS,x],?_];rintro m σ G Cl;apply ?os;intro _;apply ?U;let#[?zS,x]:=Cl;let ?t7:=x.ob;apply ?P;replace hrep:=?ot;apply#[?g,?b2,fs,?g,?i6,tv,n,w,M,?h,?tN,?N,?Hf,?Hf];{apply ?fu;show ?T5 #[?h,?zT,hS,?Fw]};apply ?VF ?cq;apply(?YT (?mO/\∃L R m' M l r,m'<m/\U m' M l r/\?TT G' []));{rintro σ' G' ⟨rfl,L,R,m',M,l,r,hm,hU,y⟩;show#[m',hm,?zS,y]};show#[?g,p,dx,fs,?h,?ju,?Bs,?f7,M,l,r,[],?g,?Fw,nx m M l r hU hS,λL' R' M' l' r' H' #[m',hm,hu] y=>#[?h,L',R',m',M',l',r',hm,hu,y]]};ext zM;have#[?zT,hS,x]:=jT;ext Sa;replace hrep:=?ot;have ?s9:=J0 hrep;replace hq:=?Gs;(let emin:?G3=min n w:=by split<;>first | show zn7 ?jS ?jS | show zna ?jS ?jS | ext d);apply#[?g,?b2,fs,?g,?i6,ta,?aD,?dn,?g,?b2,fs,?g,hp,?b6,?nB,l2,_,?k,?Kq,?Kq,?_];apply Ce (lo:=0) (n:=?G3) (λi σ' G=>Dn λo1=>σ'=?Ma/\?TT G (vF i M)) ?Pq ?_ ?_;{clear hp hrep hq Nz l1 l2 l3 l4 l5 l6 l7;rintro i σ G hi ⟨o1,rfl,y⟩;rw[emin]at hi;rw[qk8];apply ?U;let ?t7:=y.ob;apply ?P;replace hrep:=?ot;apply ?U;let ?s9:=J0 ?tN;let e:=qa0 (l:=us) (i:=i) (?c6 Xs (qb0 hi ?wm));let#[_,b,eb,hb]:=Nz i _ e;apply ?P;rw[eb]at e;apply#[?g,?b2,fs,?g,?i6,?g,ta,_,?i,hq,Bh e,?g,b,_,?i,hb,?UF (qb0 hi ?oj),?h,?g,?_];apply ?av;{(let h0:¬M i i=0:=?a5);apply#[?g,?b2,fs,?g,hp,?fC,l5,?TW y.nu,?g,?b2,fs,?g,?i6,?g,ta,_,?i,hq,Bh e,?g,b,_,?i,hb,?UF (qb0 hi ?oj),nm,?i,y.nu,?ad];{let:=Ad2 i M;show ?d1};let z:=y.num (ns':=vF ?aZ M);rw[T5,?nZ,qb2]at z;show#[?g,by rw[T5,?nZ];show z]};(let h0:M i i=0:=?a5);show#[?g,by rw[T5,?vP];show y]};ext f5;apply ?bm;intro o1 y Db;rw[emin]at y;show k L R m M l r _ hU hS y
def D9:?T7 [?ar,"k",?ba,?fW,"rest",?uv,?nI,?lB,?mE,?b9] ?xe Tp:=Bj
def IS[?A](F:?Sz ?dM ?Kz Tp)[?F][?kM](Rt:?Q P w K mg ?m ?qE ?gy 8 ?Ox)(dF:?TN ?nd ?vg ?DC)[?SV](OT:?T6 ?oq ?qQ ?Hl)[?yy]:?Sw 9 ?xe ?Ct:=by apply ?TE D9;have#[p,b,k,B,xs,ls,ps,c,?h,bk,sB,nb,AD,hps,hb,hc,kq]:=h;have ?iv:=T.x_LEVELS;have#[?kX,hP,rC,hW,hLf,dd]:=bk.ob;let ?Fq:=hW.at (k:=k) ?Os;rw[qa6,hps]at e2;apply#[_,(Ad ?lZ (Ad (?XP (?T2 Mz ?bA ?ld) ?he) (Ad (Bw (?XH Rt ?xO)) (Ad (?T1 3 ?dq ?eC) (Ad (?T1 4 ?dq (?XH dF ?xO)) (Ad (Bu ?a0 ?h ?kj (?Zd (?Ty ?dq) (?a0z (?VV ?dq) (?Uy ?dq) (?XA 8 ?dq))) (Ad (?T1 9 ?dq (?XH OT ?KE)) (Ad (Bq ?Lc (Ad (?Zo ?dq (?a1D Zb (?a0d ?aE (?T2 Rp (Bc Jt ?c9 ?aY) ?E0)))) (?XO 9 ?dq (?a1r ?c9 ?aY))) Bg) (?a0r ?X ?GR)))) (?XB (Cw ?pp)))))))),?_];ext Z;cases e2;have#[z_,L_,G_,zs,ks,Ls,Gs,fs,lp,rp,ti,_]:=bk.tie;let hs:=bk.sh;let B8:=bk.len;let pbs:=Xn ti B8 AD hps;let pbn:∀q∈?g8,EE xs ?ak q:=?WJ (pbs q (qg2.mp hq).1);ext S9;let el:=rE.len;let hat:Vo lu ?ak=?j ?gf:=Bh e1;(let bC:∀q∈c,q.2.natAbs<2 ^ pK:=?WJ (by rw[←hc.ch.ok.val hq];show hc.b q.1));apply ?Sv (?a0V ?bU);{show#[?g,?ak,4,?h,?N,?bC]};ext aw;ext Ry;{apply#[?g,?d7,_,?g,?tL,?qv,?k,P,b,xs,?ak,c,?h,?a8 sB hP,hb,?Tu hc.ch.ok.len,?uo];rw[hc.ch.chain];apply ?b8;show ?lI};ext kQ;let sB1:=?eF s1;ext Ry;{show#[?g,?d7,_,?g,?La,?qv,?g,P,b,xs,k,c,?h,?a8 sB1 hP,?b3,?g2,AD,?nN,hc.z,λH2 s2=>?T5 #[?h,?c3]]};apply Gm ?tV;intro sq;apply ?Sv (Dn λ(N:Addr)=>Bv (?XL ?fa none) (?Yb H2 N) ?hu (H' N=?pB));{show#[?ay,λN hN=>?T5 #[N,?h,hN,?L hN,Ab]]};apply Pn λN H3 nN s3 hN3=>?_;intro sq;let NU:=?fP;let sB3:=?eF NU;apply ?Sv (Dn λ ?rb=>Bv (?XL ?fa (rS Rr)) (?Yb H3 Rr) ?vm (?Zn Rr ?kC));{apply#[?g,?d7,_,?g,?E9,?bt,?uU,?h,?g,Lf,b,B,xs,?ak,wu,?fg,c,?h,hLf,dd,sB3,nb,NU _ _ hb,?nN,P9 _ _,B8,?WJ #[?r5,?fh],λRr H4 nR s4 hR=>?T5 #[Rr,?h,nR,s4,hR]];let lb:=TY ti B8 AD ?D7 t.1;rw[(?r5).ok.val ht]at lb;show L6 (bC q hq) lb ?Ng};apply Pn λR0 H4 nR0 s4 hR4=>?_;intro sq;let MW:=?J3 s4;let nHN:?Ti H N:=?fO nN;let nHR:?Ti H R0:=NU.free nR0;(let nRN:R0≠N:=λz=>by rw[z,hN3]at nR0;cases nR0);let hcl:ChL xs ?dd ?kC:=Y4 (?WJ ?r5) ?EA;apply ?Sv (SM λ ?rb ?to=>Ey (σ'=?Em) ?Fv ?Gk ?aP (?XJ N (?a0N ?iu ?EC)) (?Zn Rr (?a15 ?g8)));{apply#[?g,?d7,_,?g,?Yx (?eF MW),?bt,?tT,?h,?g,Lv,lu,?i,?T3 (?eF MW) rC,hat,E,?h,#[_,?T3 (?eF MW) hE],?_];have Cj9:?aR:=?Xb (SM λ ?rb ?to=>Ey (σ=?Em) ?Fv ?Gk ?c1 (G N=?Zc (((?fc).map ?EC).map ?S)) (?Zz Rr ?sB));apply ?bp (K:=K) (a:=E) (xs:=eu) Cj9 #[R0,?I,_,?g,nRN,nHR,MW,?Uw hN3,hR4] (?XR ?Lw ?kh hE) ?_ ?_;{rintro i v σ G hv Cl;ext f;revert σ;apply An8 ?_;intro Rr o5 o6 o7 o8 o9 nRr YA g hNG hRG Db;let hi:=?cJ;apply ?U;let ?pO:=?lv;let#[?dh,et0,d10,d20,d30,_]:=pv;apply ?P;let et:=?kh _ _ et0;let d2:=?kh _ _ d20;let d3:=?kh _ _ d30;let hqm:=?cj;let pb:=pbn q hqm;let nc2:c2≠b:=Ap d20 nb;let hcr:ChL xs ?dd ?sB:=cD (?Wi (qn4 hx)) hcl;apply ?vp;apply Ak (λσ' H'=>?XT Rr ?nJ/\?fk) ?_ ?k2;rotate_left;{apply#[?k,c2,b,?vs,c,?h,d2,?u ?Lk,nc2,?Tu pb.g.ok.len,?GS,?GA];{rw[←pb.g.ok.val hx];show L6 (pb.gb _) (hc.b _) ?Ng};rw[BL pb.g ?nN];show ?Vi ?HB};apply ?mr;intro sq;apply Ak (?ZZ (Xz c q) (?a15 ?Jm)) ?_ ?k2;rotate_left;{rw[nW hq]at Vp;unfold Xz CC at Vp;apply ?bo;apply ?av;{(let h0:q.1≠0:=?a5);let nn:=pb.nn;let efd:(?nJ).fdiv q.1=?sg:=qh4 _ nn;rw[?nZ,?nZ]at Vp;apply Ak (?ZZ ?nJ (Ff ?sB (Iq ?sg ?ts))) ?_ λB84=>?_;rotate_left;{apply#[?k,?g,?i,X7.of ?l pb.nb,?g,?sg,c3,?ts,?ED,?Ug d3,?Tu pb.f.ok.len,hc.div hqm pb h0,λT G2 nT g2 hT=>?_];let Ce2:=?AV;apply#[Rr,T,_,?g,?YS g2 Ce2,hT,?Tu hcr.ok.len,?Tu ((pb.f.ok.times _).len),λR2 G3 nR2 g3 hR2=>?_];let eZ:=?e6;(let TV:?yd:=λz=>by rw[z,eZ _ _ hNG]at nR2;cases nR2);show B84 _ _ #[R2,?h,TV,?jF (eZ.free nR2),?d0,hR2]};apply JU λR2 G3 TV A47 g3 hR2=>?_;intro sq;show#[?k,?i,?l,?Vi #[R2,?h,TV,A47,g3,hR2]]};(let h0:?iX:=?a5);rw[?vP,?vP]at Vp;show ?Vi #[Rr,?h,nRr,YA,?gA,?AV]};apply JU λR2 G2 TV A47 g2 hR2=>?_;intro sq;let Bo8:=?TY g2 g1 hNG;(ext z2);apply#[?g,?TW Bo8,?g,N,?i,Bo8,?bz ?_,R2,?I,_,?g,TV,A47,(?vH).turn nHN,?_,by rw[Aj TV];show hR2];{rw[qa3,qa3,qc3];ext d};rw[Ab,oZ,qb2,qb2];rfl};rintro σ G Cl;revert σ;apply An8 ?_;intro Rr o5 o6 o7 o8 o9 nRr YA g hNG hRG Db;rw[el,qc8]at hNG hRG;show ?T5 #[Rr,?I,_,?g,nRr,YA,g,hNG,hRG]};apply Bd0 λRr o5 o6 o7 o8 o9 H5 nRr YA s5 hN5 hR5=>?_;intro sq;apply#[?k,(?YJ 2 sizeLine),?uW];let s6:?p H5 (?TG H5 T [?z N,?z Rr]):=?s6;apply kq T N Rr _ _ (s5.free hT) nHN YA (λz=>by rw[z,hN5]at hT;cases hT) (λz=>by rw[z,hR5]at hT;cases hT) nRr.symm ?sR Ab (s6 _ _ hN5) (s6 _ _ hR5) #[cD ?N7 hcl,λq=>vX hs ti B8 AD hps ?nN hc.z ?N7 q]
def N5:?T7 [?bK,?be,"work","left_back",?fx] ?fq Xg:=Bj
def lH[?A](F:?Sz ?oi ?oi Xg)[?F](jD:MV P w K mg ?m ?V ?lx 3 ?D2)(Jy:?Ul ?rr 9 ?L1)(Hy:?Ul ?ys 5 ?BA)[?kN](m8:?TN ?qG ?n3 ?PW):?Sw 10 ?fq ?KC:=by apply ?TE N5;have#[v,n,w,A,Fin,?h,hv,hn,hw,hP,k]:=h;have ?FB:=?fy;have#[U,Y,a1,a2,a3,a4,a5]:=hP.ex;apply#[_,(Ad (?V8 m8) (Ad (?T1 2 N5.nd (P7 jD hr ?r T.m_Work ?cl)) (Ad (?Vq ?H Jy) (Ad (?Vq ?H Hy) (Ad (?T1 3 N5.nd (?XH Du (Aa ?ki ?iP))) (Ad (?T1 4 N5.nd (?XH Du (Aa ?ki ?bE))) (?XB (Cw (?ZT ?vN ?ki (?a0w ?X ?aE ?ki)))))))))),?_];ext Z;apply ?a08 (σ'=[?gC,?fj,none,none,none]) ?aP;{apply#[?k,?jW,n,w,A,?h,hv,hn,?l,?uo];apply ?fu;show ?lI};ext kQ;apply ?Sv (Sx λp L R nm=>?tQ/\WX K ?M ?V H1 H' p L R nm n w (?j A) ?eE ?eE []);{apply#[?k,?_];intro p dx np ndx Ax4;let sN:?Xy (?U0 (?a0T dx ?rQ) ?V []):=?mA np;show#[H1,p,dx,?jW,n,w,A,?h,sN,np,Ab,?a8 s1 hv,?l,hw,λL R nm H' y=>#[?h,?T5 #[p,L,R,nm,?h,y]]]};apply Bd4 λp L R nm H2 x=>?_;intro sq;apply ?Sv (SM λL R k f l r=>Di ?tQ (k<=n) (k<=w) (Y k 0 f l r) (?Xw k));{apply ?U;let ?mH:=x.ob;apply ?P;apply#[?g,p,?So,n,w,A,_,_,U,?cf,a1,a2,λL' R' m M l r H' hU hS y=>?_];apply ?U;let#[k,f,e,k1,k2,hY]:=a3 m M l r hU hS;apply ?P;rw[e]at y;show ?T5 #[L',R',k,?d9,?h,k1,k2,hY,y.drop]};apply Bd1 λL R kk f l r H3 k1 k2 hY x=>?_;intro sq;apply ?Sv (Kz λf l r=>Bv ?tQ (Fin kk f l r) (?AS kk kk f) (?Xw kk));{apply ?U;let ?mH:=x.ob;apply ?P;apply#[?g,p,?So,n,w,kk,l,r,f,Y kk,?cf,k1,k2,hY,a4 kk,λd f' l' r' H' hY' hC y=>?_];show ?T5 #[f',l',r',?h,a5 _ _ _ _ _ hY',hC,y]};apply vP λf l r H4 hF hC x=>?_;intro sq;ext ST;have ?sm:=x.li;have#[dl,fl,hL,e1,e2,_]:=lx.ob;have#[dr,fr,hR,e3,e4,_]:=ly.ob;have#[as1,xa1,_]:=lx.rw;have#[bs1,xb1,_]:=lx.bk;have#[PK,xa2,_]:=ly.rw;have#[bs2,zP,_]:=ly.bk;let kT:=x.same;apply#[?g,?eO,?g,hpa,?gM,l3a,L,?M,dl,fl,?g,hL,?dL,?pu,e2,?g,ta,?aD,?u ((?xP).seq hq),?z b1,n,n,l.2,?xa,xb1.rep,?N,λD1 c1 H5 hc1 R1=>?_];let s45:=R1.same;apply#[?g,?eO,?g,(s45 _ _ hpa),?Sq,?g,(s45 _ _ hR),?dL,?mF,e3,?g,?z r2,w,w,r.1,?h,(xa2.same s45).rep,?N,λD2 c2 H6 hc2 R2=>?_];let s46:=s45.trans ?gw;apply#[?g,?eO,?g,?uj,?fC,l5a,?g,?eO,?g,?uj,?gM,l3a,L,?M,dl,fl,?g,(s46 _ _ hL),?dL,?mF,e1,?k,?g,?eO,?g,?uj,?Sq,?g,(s46 _ _ hR),?dL,?pu,e4,?aH,?Kw];let s67:?p H6 (?TG H6 tp [?LC,?z r1,?ia,?ed,?z b2]):=?L htp;let s47:=s46.trans s67;let wG:=?Tb ?xP s47;let g1:∀a,?PC->?gn:=?VN ?fM;apply k tp nm r1 D1 D2 b2 kk f l r _ hF hC k1 k2 #[wG,?ag,?zk,(xa1.same s47).rep,(R1.later ?DT).rep hc1,(R2.later s67).rep hc2,(?rq s47).rep,?cP];rcases ha with rfl | rfl | rfl | rfl | rfl;{show#[g1 _ ?MO,_,?zk,by rw[Bz];show qa4 k2 hw]};{show#[g1 _ f1,_,s47 _ _ xa1.2.1,by rw[qa3,xa1.1];ext d]};{show#[g1 _ (kT.free ?nm),_,?Z2 ?DT R1.at,by rw[qa3,hc1];ext d]};{show#[g1 _ (kT.free (s45.free ?q0)),_,s67 _ _ R2.at,by rw[qa3,hc2];ext d]};show#[g1 _ f4,_,s47 _ _ zP.2.1,by rw[qa3,zP.1];ext d]
def G9:?T7 [?ih,?am,?bu,?Mj,?ey,?H6] ?y7 Lp:=Bj
def i7[?A](F:?Sz ?mu ?mu Lp)[?F](Da:?LS)(Uf:Kb P w K mg ?m ?aJ ?dM ?xe 9 ?Ct)[?kO][?yz][?SQ]:?Sw 10 ?y7 ?B5:=by apply ?TE G9;have#[p,a,i,?df,sB,hL,hi,hlv,kq]:=h;ext bY;let hs:=bk.sh;let B8:=bk.len;let h4:?wX:=?kx;have#[k,ps,AD,ek,hps,te]:=sW bk hi hlv;have ?Rp:=bk.ob;ext S9;apply#[_,(Ad (?a1a 3 G9.nd (?XH Da (?T4 ?B (?a0e ?H)))) (Ad (?Zo G9.nd (?a1G (?T2 Fb (?XC ?B ?H) Ac))) (Ad (?T1 5 G9.nd (C6 ?w ?bt Uf hr (Aa ?aE ?dc))) (Ad (?XE (?TP Zs ?aY ?yh) (Ng (?TA Gn (?ZP ?e2)))) (Ad (?a0g (Ba ?Ri ?dJ (?a1c (?ZP (?XD (C6 ?w ?bt Hg hr ?k6)))) ?J)) (?XB (?a1g (?T2 Eh ?B (Aa ?pl ?Gx)) (Js ?OL (?T2 Da ?B ?Gx) ?X ?J)))))))),?_];ext Z;apply ?Sv (?a16 (?Y8 none none) (?Zn E ?vM));{apply#[?g,?QC];(let sZ:?VK ?Md Z ?DQ:=?rm);apply#[a,Z,xs,[(?aX,1)],?Sp];rw[?RO];show#[qn1 i,zc9.mpr hi]};apply Pn λE H1 nE s1 hE=>?_;intro sq;let sB1:=?eF s1;apply ?Sv (?Y8 ?an none/\H1=H');{apply ?U;let ?nq:=?WT ?dv hi;apply ?P;rw[qb8]at vV;apply#[?k,a,NB,?i,oS,jE,v2,?yk,?h,?nH,?i,?_];rw[?BH,ek,?TD ?KD];show ?bC};ext aw;apply ?Sv (Sx λ(T0 N D:Addr) ?g0=>Ey ?y5 ?jq (H' T0=?j (?a9 [?z N,?oy])) (?XJ N (?a0N ?iu (Xz ?vM))) ?pJ (w9 xs ?ak ?g8 ?vM m));{show#[?g,p,dx,?g,?La,?h,?k,p,E,k,B,xs,ls,ps,?g,bk,sB1,sB.free nE,AD,hps,hE,te.rnd,λT0 N D m G _ _ _ _ _ _ g hT hN hD hr=>?T5 #[T0,N,D,m,?h,g,hT,hN,hD,hr]]};apply VO λT0 N D m H2 s2 hT hN hD hr=>?_;intro sq;have#[lvm,km,same]:=te.rest m hr;let lm:=lvm.len;let nV:=?c3;let sB2:=?eF nV;apply ?Sv (?y5/\H2=H');{apply(?V1 T0 hT);apply ?b8;apply(?W9 T0 ?a1 ?Q4);apply ?fu;show ?bC};ext aw;apply ?Sv (?y5/\?hu);{apply#[?g,T0,_,?i,?Q4,?h,?aH,?vh];let s3:?a09 ?Bc:=?vF;let e3:?q H2 l ?ej l=?uF:=Ab;generalize ?Bc=H3 at s3 e3;let sB3:=sB2.trans s3;apply#[?g,p,dx,?g,?E9,?h,?g,p,?ak,?df,sB3,?VG qn1 _,?l,λps' F us' G XU nF g hF rP=>?_];rw[qb8,hps]at XU;cases XU;let ul:=?hO;apply#[F,us',?h,?Yi hF,l,?i,?a0L e3,?N,?e9,?mN];let s5:?a0b (?Tv G D2 ((?c5 ?xy [?cU]).flatten)):=?rC;let s25:=?TM ?fr g s5;rw[qb8];apply#[?Wq 0,?Wq 0,#[N,?g,?T3 s25 hN,?_],#[D2,?g,?ag,?_],?QM,?_];{rw[te.due m hr,ul];show ?ou};{rw[f8];show ?wR (zb5 ..).symm};rw[Uo];apply ?bq;apply ?b8;show ?T5 #[?h,s25]};apply Gm λH3 s3=>?_;intro sq;let NU:=?wZ;let zL:=?Y5 hT;apply#[?k,?i,?g,T0,_,?i,?n zL,?h,a,D,xs,_,m,?h,?UU NU,?Y5 hD,lvm,λG g=>?Ee];let s0G:=?J3 g;apply#[?k,T0,_,?i,?T3 g zL,?h,a,D,xs,m,?h,?UU s0G,(?fr g) _ _ hD,?l,h4,km,λF G2 nF g2 hF=>?_];apply#[?g,F,E,?i,?u hF,?YS (?TM ?Ch g g2) hE,?_];rw[same];show kq G2 (s0G.trans g2)
def E3:?T7 [?ah,?dM,?tP,?uX,"k",?be,?hA,?no] [?ah] Xi:=Bj
private def lI[?A](F:?Sz ?ny ?ny Xi)[?F][?Sl](n0:?Q P w K mg ?m ?oi ?fq 10 ?KC)[?qi][?SR](l8:?UX ?nW ?w7 ?Dp)[?kN](Pe:?Q P w K mg ?m ?ph ?fV 8 ?M0):?Sw 11 [?ah] ?MX:=by apply ?TE E3;have#[a,xs,?aQ,?b3,kq]:=h;have ?iv:=T.x_LEVELS;(let h4:?wX:=λx hx=>by let#[i,hi]:=qi1 hx;rcases (hs i x hi).cnt with e | e | e | e<;>ext d);let pl:∀k,?cn<=40:=λk=>?uJ;apply#[_,(Ad (?T1 1 ?du ?eC) (Ad (?a1a 2 ?du (?a1D Wb (?XD (?ZP (?a0i (Ai By hr ?Le)))))) (Ad (?T1 3 ?du (?XH Wb ?wK)) (Ad (Bu ?a0 ?h (?TZ ?Oa) (?Te ?du) (Ad (?T1 5 ?du (?ZP (?XD (?a1D By ?Pe)))) (Ad (Am (i:=6) ?du (?XH n0 (Aa (?T2 Np ?X (Aa (?a1D Pe ?Pe) ?e2)) ?e2))) (Ad (?a1X ?B (?XD (?T2 l8 ?w (?ZT ?aE ?b0 ?mz)))) (Ad (?T1 7 ?du (?ZP (?XD ?vf))) (Ad (?T1 2 ?du (?a00 (?XH Du (Aa ?vf ?e2)) ?B4)) (?XO 3 ?du (?a00 ?vf ?B4)))))))) ?jt)))),?_];ext Z;apply ?Sv (Dn λ ?bD=>Bv (?Xk none none) ?aP ?dY ?ON);ext SP;apply Pn λD H1 s1 nD hD=>?_;intro sq;apply ?Sv (Dn λ ?Kl=>Bv (?Xk ?aI none) ?jq (la≠D) (Rep K H' ?y9 ?F3));{apply#[?g,a,0,?di,?dv,?l,?DS];apply ?v3;rw[qa3];show#[?jc,?h,?MT,λla at_ H3 hal R3=>?T5 #[la,?h,?JS,?OJ,rO ?r6]]};apply Pn λla H2 s2 nlD hla=>?_;intro sq;apply ?Sv (Dn λ(ga:Addr)=>Bv (?Xk ?aI ?bj) ?hu (ga≠D) (Rep K H' ?mD ?F3));{apply ?U;let#[_,lu,ez,hlq,A38,_]:=J0 hla;apply ?P;cases ez;apply ?JM;rw[A38];show#[?jc,?h,?MT,λga at_ H3 hal R3=>?T5 #[ga,?h,?nx,?OJ,rO ?r6]]};apply Pn λga H3 s3 ngD hga=>?_;intro sq;let s13:=?u5;apply ?Sv (As4 K H a D xs 4 σ' H');{apply ?x3;apply ?UP (λk σ G'=>As4 K H a D xs k σ G') ?_;{apply#[[],[],la,ga,?jc,?hE,?hE,?I,?g,s13,?Z2 ?fP hD,?h,Qs.first xs,?Kv,nlD,ngD,?a8 s3 hla,hga,?_,?hv,one_bits _ _,one_bits _ _];(let e0:Cv xs (?D1-1)=0:=by exact(Cr xs (0-1)).length=0;rw[Ab1];rfl);rw[e0];show Lat.Lev.first _ _};{rintro k σ G' hk Cl;ext f;apply ?U;let#[us,ls,la,ga,z,L,G,o4,o5,o6,o7,?h,g,Cu,xV,DA,hB,nla,nga,rla,rga,lev,hzm,bL,bG]:=Cl;apply ?P;rw[?Qm];let Dj4:=pl ?ak;let Dh5:=pl ?dd;(let hzw:z+?ew<=40:=by let:=wK (xs:=xs) (?TD (?ak≠?dd));ext d);let VT:?Tl k:=hB.1.trans xV;let ekk:?KD:=?l;let LZ:=?UU g;apply ?Sv (?Xm ?aI o6 o7/\?YE G');{apply#[?k,?i,a,?dd,?di,LZ,?l,?DS];apply ?v3;rw[qa3];show ?T5 #[?h,s2]};apply ?mr;intro sq;let tw:=OP hs ?ak;let told:=lev.told tw;let#[pv,st]:=lev.st;let plan:=uZ st told (λq c _ _=>zT h4 _ q c) hzw;apply ?Sv (VC λ(tp nm r1 D1 D2 b2:Addr) (k0:Nat) (f:?hW) (l r:?ei)=>Di ?RQ ?iI ?OR (pQ D nm r1 D1 D2 b2) (?Xz EH ?ak));{apply#[?k,?g,?i,a,xs,?dd,?h,?UU ?gF,?l,h4,?N,λT as G2 hal R2=>?_];rw[ekk]at hal;let rT:Rep K G2 ?vk (dT ?yS ?ew ?vx):=R2.rep hal;apply#[?g,?mD,?vk,z,?yS,?ew,G,?vx,?h,?a8 ?Cx rga,rT,?N,?l,λi j c hi hj hc=>L6 (bG i j hi hj) (NG h4 _ j c) (by unfold bookF;decide),λT2 PK G3 A45 R3=>?_];apply#[?g,?z T2,z,?ew,Lat.gT ?yS G ?vx,?g,R3.rep A45,?Lz,?l,plan,λtp nm r1 D1 D2 b2 k0 f l r G4 hF hC k1 k2 x=>?_];show ?T5 #[?zR,k0,?d9,?h,(?nV ?nx).trans ?gZ,x.r,x.ne ((?ZE ?Cx ?nx) _ _ Cu),#[lev,hF,hC,k1,k2,bL,bG,hzm]]};apply As9 λtp nm r1 D1 D2 b2 k0 f l r G2 g2 x xn bl=>?_;intro sq;let eZ:=?e6;apply ?Sv (Dn λ ?sW=>Di ?RQ ?aP (?cX=?vv) (Hm D H' us' ?Li) ?OR);{apply#[?g,?TW ?Je,?k,?k,?g,a,?zR,?y9,?mD,xs,?ak,z,k0,_,L,G,?d9,?h,?UU ?BJ,B8,?h,?a8 eZ rla,?a8 eZ rga,x,?Lz,bl.kz,bl.kw,λi hi=>by let:=bl.fin.dg.pos i hi;ext d,bl.fin.bl.1,bl.fin.bl.2,bL,bG,λE eu G3 nE g3 hE rE=>?_];let g13:=?ws;apply(?YZ ?tH);(let nED:E≠D:=λq=>by rw[q,?Je]at nE;cases nE);apply ?T5 #[us++[?gf],?h,(?d6 g13).turn nD,?W,?_];{show(hB.same g13).snoc ?tH nED hE rE};show(?gZ g3).put xn ?tH hB.refs};apply JU λus' G3 g3 A50 hB3 x3=>?_;intro sq;apply ?Sv (?Xm ?aI ?bh (?Zg ?pg)/\G3=H');{apply#[?g,tp,_,?i,?wk,?h,nm,?g,?u x3.num,?_];rw[Bz];show ?bC};rintro _ _ ⟨rfl,rfl⟩;let hkw:=bl.kw;apply ?Sv (Dn λ(la2:Addr)=>Bv (?Xm (rS la2) ?bh (?Zg ?pg)) ?Q0 (la2≠D) (?Xr H' la2 (dT ?JO ?ew ?QL)));{apply#[?g,tp,_,?i,?wk,?h,?g,?ed,_,_,?g,x3.right,?N,λF as G4 hal R4=>?_];apply#[?k,F,?g,?n R4.at,?ep];(let ec:Co ?dK (?j ?pg) ?T=?U2 as.drop k0 ?cH:=by rw[J6,qt4]);rw[ec];let R5:=R4.drop (k:=k0) hC ?h;apply ?T5 #[C,?h,R5.same,(Ap (?sc _ _ A50) hC).symm,?_];show R5.rep (by rw[qi7,hal])};apply Pn λla2 G4 g4 B60 B45=>?_;intro sq;let x4:=x3.same g4;apply ?U;let#[_,bu,ez,hbq,Cd3,Bo2]:=J0 x4.rback;apply ?P;cases ez;apply#[?g,tp,_,?i,?tW,?h,?k,b2,bu,?h,hbq,?ep];rw[J6];let g5:=?L (o:=?y (bu.drop k0)) hC;apply#[us',?Li,la2,C,?JO,?QL,(λi=>r.2 ?PX),?I,?g,?Tb ?nM g5,?Z2 ?lr A50,by rw[qb6,xV];rfl,DA.snoc bl,hB3.same ?lr,B60,(Ap (g4 _ _ A50) hC).symm,?ad,?ad,?ad];{rw[?hX];show ?a8 g5 B45};{rw[?hX];apply Ag2 (us:=bu) (λi u e=>?_) Cd3 ?ag;apply ?U;let#[h1,b,eb,hb]:=Bo2 i u e;apply ?P;show#[h1,b,eb,g5.seq hb]};{let#[pl',lo]:=bl.fin.lo;let:=lev.next tw bl.fin.dg bl.fin.il bl.fin.ir lo;rw[?hX,ekk];show this};{rw[?hX];ext d};{rw[?hX];show λi c hi hc=>bl.fin.br.1 _ _ ?PH hc};rw[?hX];show λi c hi hc=>bl.fin.br.2 _ _ ?PH hc};rintro σ G' h;show ?T5 h};rintro _ H4 ⟨us,ls,la',ga',z,L,G,o4,o5,o6,o7,rfl,g,Cu,xV,DA,hB,_⟩;show#[?g,kq D us ls H4 nD g Cu xV #[?I,DA] hB.out]
def Tg:?T7 [?ar,?cu,?vV] ?se O0:=Bj
def CO[?A](F:?Sz ?bs ?Ph O0)[?F](n6:?Q P w K mg ?m ?ny [?ah] 11 ?MX)(l9:?TN ?lF ?sv ?HE)(m9:?Q P w K mg ?m ?oM ?cW 6 ?RU)(Ko:?T6 ?mI ?gX ?Pj):?Sw 12 ?se ?Lu:=by apply ?TE Tg;let#[p,dx,a,us,H0,?di,hp,ha,r,s0,n0a,n0p,?b3,k]:=h;let hL:?WP H:=(?Z6 a ha s0);(let nap:a≠p:=λz=>by rw[z,hp]at ha;cases ha);apply#[_,(Ad (?a1I (?Zb (?XH m9 ?bE)) ?he) (Ad (?a0u (?UJ ?bE)) (Ad (?T1 2 Tg.nd (?XH n6 ?fF)) (?a07 (B6 (N':=?gX) (cap:=?ck) ?r ?a7 ?NF (?Sy (?XA 0 Az3)) ?aN (?Sy (?XH Ko ?bv))) (?XH l9 ?xO))))),?_];ext Z;apply ?Sv (?QV/\?aP);{apply#[?g,?cm,xs,?aQ,?b3,?uo];show G7 ?a2 ?lI};ext kQ;apply ?Sv (Dn λ ?J1=>Ey ?QV ?Dg (H' P=?e5) (P≠p) (P≠a) (?a0P ?aJ [?uK]));{apply#[?g,a,?aD,?u (?n ?IO),λP hP=>?_];let s2:=?bS (?Ww ?hI hP);let nPp:P≠p:=(Ap ?ju hP).symm;apply#[?g,?d7,[],?h,?Tw hp,?bt,?H9,?gP];show ?T5 #[P,?h,?YN s2,?ZB nPp,nPp,(Ap ?IO hP).symm,?rM]};apply Bd8 λP H2 sx2 hP2 nPp nPa hp2=>?_;intro sq;let nV:=?H0 s0 n0p;let ha2:=sx2 _ _ nap ha;apply ?Sv (Kz λ ?bD ?w2 ?DP=>Lj ?FQ ?hu (?cX=?uw) ?s0 (Sd H' bu ls) (ls.length=4) (∃z L G,Qs xs 4 ls z L G));{apply#[?g,?d7,_,?g,hp2,?qv,P,?di,(?Z6 P hP2 nV),?b3,λD bu ls H3 nD s3 hD hl4 DA hB=>?_];show ?T5 #[D,bu,ls,?h,s3,hD,(Ap hp2 nD).symm,hB,hl4,DA]};apply Bd5 λD bu ls H3 s3 hD nDp hB hl4 Bl9=>?_;intro sq;let DA:=let #[?I,t]:=Bl9;Qs.lev t;let hp3:=?HF;let ha3:=?Y5 ha2;let h0:=hB.1;apply ?Sv (Ji λ(Lv:Addr) ?go=>Z3 ?FQ ?O9 (H' Lv=?iH) ?Np ?AQ (Sd H' ws ?n6) ?Hm (?a0P ?aJ ?Ih));{apply#[?g,D,?h,?Bp,λLv rC=>?_];let nLp:?Np:=(Ap hp3 rC).symm;let nLa:?AQ:=(Ap ha3 rC).symm;have Cj8:?aG:=λi ws τ G=>Di (?p H3 G) (G Lv=?iH) (Hm Lv G ws (?U2 ls.take i noB)) ?Hm ?dW;apply Cs (K:=K) (a:=D) (xs:=bu) Cj8 #[?L rC,Ab,?Kv,(λv hv=>by cases hv),?O] (?Uj ?n ?lc) ?_ ?_;{rintro i v ws τ G hv Cl;revert τ;apply ?fK;intro g LZ hW hna o Db;let hi:=?cJ;obtain⟨ps,hps⟩:?vS:=?fe;let ?OG:=?E4;let hpl:=(DA i ps hps).len B8;(let wl:ws.length<=i:=by let:=hW.1;rw[qa3,qc3]at this;show ?mU ?fG ?wm);apply#[?g,pa,pu,ps,?h,?st,?m4 g,?l,λE eu G2 nE g2 hE rE=>?_];let nEL:E≠Lv:=(Ap LZ nE).symm;apply#[?P9,?bd,(?eu).turn rC,?W,?NA,?g];{rw[qd9,hps,qb2];show(hW.same g2).snoc ?P9 nEL hE rE};rcases ?qP hv with hv | hv;{show hna v hv};rw[qg5]at hv;subst hv;show λz=>by cases z;rw[?a0L ha3]at nE;cases nE};rintro ws τ G ⟨g,LZ,hW,hna,_⟩;rw[h0,qc8]at hW;apply#[?g,?d7,?g,?xG,?bt,?tT,?gP];apply ?T5 #[Lv,ws,?h,?YN g,by rw[Aj nLp];show LZ,nLp,nLa,?LA,hna,?rM];let#[E,eu,?aB,hE,rE]:=?AT;apply#[E,eu,?bg,?WD ?_];{rw[?ha];{show hE};rw[z,?xG]at hE;cases hE};rw[?ha];{show e};rw[z,?xG]at e;cases e;rcases ho with⟨_,q⟩|⟨_,q⟩<;>cases q};apply Bd7 λLv ws H4 sx4 rC nLp nLa hW hna Sk=>?_;intro sq;let MW:=?Fb ?wZ n0p;let hP4:=sx4 _ _ nPp (?Y5 hP2);let JR:=sx4 _ _ nDp hD;let ha4:=sx4 _ _ nap ha3;let kd4:∀c o,H3 c=?co->(∀C d f,o≠?aq C d f)->H4 c=?co:=λc o e h=>sx4 _ _ (λz=>by rw[z,hp3]at e;cases e;show h _ _ _ ?h) e;let hB4:Sd H4 bu ls:=#[h0,λi v ps e1 e2=>by let ?Dl:=hB.2 i v ps e1 e2;show#[E,eu,?h,kd4 _ _ hE λ_ _ _ z=>?D4,?WD (kd4 c o e λ_ _ _ z=>by rcases ho with⟨_,q⟩|⟨_,q⟩<;>rw[q]at z<;>cases z)]];apply#[?g,?d7,_,?g,Sk,?qv,?g,P,D,xs,bu,ls,?h,(?Z6 P hP4 MW),B8,JR,hB4,λps hps=>?_,λLf wu H5 nLf s5 hLf dd=>?_];{let#[i,hi]:=qi1 hps;show(DA i ps hi).ok B8};let nfp:Lf≠p:=(Ap Sk nLf).symm;let nfa:Lf≠a:=(Ap ha4 nLf).symm;let lY:=s5 _ _ Sk;apply#[?g,?d7,?g,lY,?bt,?uU,?gP];(let hp6:?q H5 p ?Ml p=?Y9 ?aJ [?uK,?A7,(?fH,?GX)]:=?rM);let jX:?Yj H5 ?PO:=?d5;generalize ?PO=H6 at hp6 jX;let ha6:=?Vb nap ha4;let s06:=jX.same ?FI n0p;let sB:=xX s06 n0a;(let kd6:∀c o,H5 c=?co->((∃l,o=?a9 l)\/∃l,o=.dK l)->UG H6 a c=?co:=λc o e ho=>by (let ncp:c≠p:=λz=>by rw[z,lY]at e;cases e;ext Sj);let e6:=jX c o ncp e;rw[Od ?o3];{show e6};rw[z,ha6]at e6;cases e6;ext Sj);apply k (UG H6 a) ls H6 ((?TM sx2.trans (?dP s3) sx4).trans (?TM ?dP s5 jX)) #[#[dx,P,Lv,Lf,ws,wu,?_,#[P,?aD,?JF,?Vv sB],?_,?LA,?_,dd.1,λi v e=>?_],?b3,hl4,DA,Bl9] sB uG QZ;{rw[Od nap.symm];show hp6};{rw[Od nPa];show ?Vb nPp hP4};{rw[Od nLa];show ?Vb nLp rC};{let ?Dl:=?AT;let hE5:=s5 _ _ hE;(let nEp:E≠p:=λz=>by rw[z,lY]at hE5;cases hE5);let nEa:E≠a:=λz=>hna _ (qa9 e1) (by rw[z]);show#[E,eu,?h,by rw[Od nEa];show jX _ _ nEp hE5,Cd.kd kd6 (rE.same s5)]};{rw[Od nfa];show jX _ _ nfp hLf};let#[c,e1,_,e2]:=dd.2 i v e;show#[c,e1,?h,kd6 _ _ e2 (?a1 ?c0)]
def Hs:?E [?hg,"_law_bits",?am,?dT,?ih,?hw,?hz,?dR,"_law_orders",?ey,"_law_spots",?bu] ?kA ?Go:=Bj
def Aw9[?A](F:?jj)[?F](Uj:?TN ?kg ?rh ?LX)(Uk:?T6 ?oN ?yZ ?D9)(JD:MV P w K mg ?m ?aJ ?se 12 ?Lu)(Ix:?T6 ?nX ?qg ?LR)(Rw:?TF ?ns ?y8 ?Gm)[?SQ](Ug:Kb P w K mg ?m ?aJ ?v4 ?ln 1 ?Fx)(Xw:?Vd ?ox ?h6 ?KY)(L4:?T6 ?qa ?v8 ?NJ)[?z9](Nq:?Q P w K mg ?m ?mu ?y7 10 ?B5)(Mt:?UE ?vY ?R1)(Pc:?UE ?ui ?O8)[?kO]:?x1:=by apply ?TE Hs;let#[a,ns,?fD,hl,C05,kq]:=h;ext bY;apply#[_,(Ad (?T1 1 ?bn (Bc Ju ?oc Ah)) (Ad (Am (i:=2) ?bn (?XH Uj (?a0w ?oc ?rJ (Bc Gy Ah (Bc K4 Ah ?EV))))) (Ad (?T1 2 ?bn (?XH Uk ?ld)) (Ad (Bu ?a0 ?h (?TL Bt (?a1Q ?pj (C9 (?a1Y Ah ?HL)))) (?TR ?bn) (?ZU (?XZ (?a1J P8 Ah ?eo) P8 ?eo) (?a1j (?a1N ?H (E9 (?W6 ?H ?X ?eo)))))) (Ad (?a1I (?TA Ev ?HL) (?a1j (?ZS (?T2 L4 ?H (?XD ?rJ)) Ah))) (Ad (?a1I (?TA Ev (?YH (?a1Y ?oc ?oc))) (Af (?T1 2 ?bn (?XH Rw (Aa ?rJ ?g5))))) (Ad (?Zo ?bn (P7 JD hr ?r T.m_Book (?XD (?UJ ?bl)))) (Ad (Mm (N':=?Al) (cap:=?rH) (i:=5) ?bn ?r ?eK ?r ?a7 ?lD (?Sy (?XA 0 Ax5)) ?aN (?Sy (?ZI Hg))) (Ad (Mm (N':=?Ds) (cap:=?rH) (i:=6) ?bn ?r ?eK ?r ?a7 ?RW (?Sy (?XA 0 Ax6)) ?aN (?Sy (?ZI Ug))) (Ad (?XP (?T2 Xw ?H (Aa ?aY ?nR)) ?aS) (Ad (Bu ?a0 ?h ?lD (?Uy ?bn) (Ad (Mm (N':=[?j5]) (cap:=?ck) (i:=8) ?bn ?r ?eK ?r ?a7 (?TL Bt (?XC ?aY ?en)) (?Sy (?XA 0 Ax7)) ?aN ?Ek) (Af (?XE (?Zb (?T2 Id ?OY Ac)) (Ng (?a1J ?Ri (Bc ?cS (?a1A Pc) (?a1c ?OY)) ?cx)))))) (Ad (Bu ?a0 ?h (g7 ?r ?b7 ?jO) (?XA 9 ?bn) (Ad (Mm (N':=?IC) (cap:=[none,?hr,?j 9]) (i:=10) ?bn ?r ?eK ?r ?a7 ?RW (?Sy (?XA 0 Ax8)) (?Sy (?a1f (?XH Fb ?GC) ?H)) ?gp) (Af (?a1I (?TA V2 ?Fn) (Ad (?a0h 11 ?bn (?XC ?kL (?a1r (?T2 Ix ?w ?GR) ?Fn))) (?ZU (Dq (Dl (?T2 Nq ?aE (?a0d ?H ?jR)))) ?aS)))))) ?aS)))))))))))),?_];ext Z;apply ?Sv (Dn λ(b:Int)=>?a10 none/\?bU);{show#[?g,a,ns,0,?fD,?a2,hl,?i,?e4,?T5 ?t2]};apply Ak0 λb=>?_;intro sq;let b3:0<=b%3/\b%3<3:=?l;apply ?Sv (?Zf (?g6+9*(b%3)<=40));{apply#[?g,a,ns,0,?fD,?a2,hl,?k,?g,a,?g,hS,?ep];let sC:?VK H C ?Cb:=?gj;let hcl:=?KV;apply#[?g,?i,?pr,?i,L6 (m:=4) (n:=4) ?a2 (qd8 (?TU ((b%3).natAbs<3)) ?a2) ?a2,?i,C,?Ga,_,40-9*(b%3),?bg,?N,?l,λp1 vD H1 zs hp1 s1 Ca9 r1 hsh hzl=>?_];{rw[←Uu];show ?ag};show ?T5 #[p1,vD,zs,?h,sC.trans s1,Ca9,r1,hsh,?l]};ext qk;intro sq;apply ?Sv (?Zf ?vt);{show#[?k,p1,us,xs,?b4,hp1,r,?b3,λp2 NB ys H2 s2 h2 r2 hs2 hl2=>?T5 #[p2,NB,ys,?h,?c3,h2,r2,hs2,hl2]]};clear hp1 r hs B8 s1;ext qk;intro sq;let vG:=?m3;apply ?Sv (?a0K ?M4);{apply#[?k,?g,?i,?e4,?i,(?TX 7),?i,?g,a,?g,vG,?ep];rw[Uu];generalize AW ns ?c8 (?j (1+b / 72%7))=cs at hC ⊢;let s2:?Xy ?Da:=?gj;let vH:?q H1 C ?t6 C=?j ?t6:=Ab;generalize ?Da=H2 at s2 vH;apply ?Qf;have Cj7:?aR:=?Xb (?a0K (Ey (σ=?Bg) ?rk (G p1=?e5) ?EE ?kK ?vt));apply ?bp (K:=K) (a:=C) (xs:=?um) Cj7 #[p1,us,xs,?O,?gA,?NW,?Vv s2,?b3] (?XR ?NO g vH) ?_ ?_;{clear hp1 r hs B8;rintro i v σ G hv ⟨p1,us,xs,o3,rfl,g,hp1,r,hs,B8⟩;let hi:=?cJ;(obtain⟨n,rfl⟩:∃n,v=?S n:=by rw[qa3]at hi;rw[qa6,?bc]at hv;show#[_,?Be]);(let ul:?p5:=?kH);apply ?I3;apply ?UT ?QJ;apply ?I3;apply ?bF ?lu (λh2=>?QJ);(let h1:?bW<?h9:=?a5);(let h2:?h9<40:=?bV);let m0:=qp0 n (?TD (?h9≠0));let m1:=qm3 n h1;let#[v,hv2,tv]:=r.get (i:=?mh) (d:=tI ?I5) (by rw[qa6,qa1,qa0 (?cQ ul ?uP)];rfl);(let hat:Vo us ?vR=?au:=?Ye hv2 (((?mh:Nat):Int)) ?vR);apply#[?k,?k,p1,?aD,?uM,?i,h1,p1,us,_,v,?K,?vr,hat,?aH,?xx];let g2:?a0b ?ET:=?n5;let he2:?q G e ?lw e=?j ?lw:=Ab;generalize ?ET=G2 at g2 he2;apply#[p1,e,us,[v],?K,?T3 g2 hp1,?n he2,?e9,?xf];let g3:?p G2 (?Tv G2 d ?rN):=?lR;apply#[d,?rN,xs++[?I5],?g,?Tb ?eu g3,?W,MQ hs (i:=?mh) ?_,?vz];{rw[qb2];show(?Vv ?d0).snoc (?a8 ?d0 tv)};rw[qa1,qa0 (?cQ ul ?uP)];rfl};clear hp1 r hs B8;rintro σ G ⟨p1,us,xs,o3,rfl,g,hp1,r,hs,B8⟩;show ?T5 #[p1,us,xs,?eQ,?u6 g,hp1,r,?b3]};clear hp1 r hs B8 s1 vG;apply VO λp1 us xs o3 H1 s1 hp1 r hs B8=>?_;ext Rt;{apply#[?g,?i,?e4,?i,?rK,?h,?g,?_];apply ?LJ;apply#[?k,?k,a,?g,vG,?ep];let sC:?Xy (?a0T C ?Cb):=?gj;let hcl:=?KV;apply#[p1,C,?Ga,?di,(?Z3 sC sC),?_,?N,?kx,λR1 q o NB ys os H' s' hR hq ho hq' ho' r' hT=>?_];{rw[←Uu];show ?ag};apply#[R1,_,?i,?n hR,?bg];show ?T5 #[?St,hT.shape hs,by let:=hT.len.1;show ?mU ?fG B8]};clear hp1 r hs B8 s1 vG;ext qk;ext Rt;{apply#[?g,a,ns,0,?h,vG,?a2,hl,?g,a,ns,1,?h,vG,?a2,hl,?i,?i,?rK,?h,?g,?_];apply ?LJ;apply(?WY a vG ?ep);let sC:?Xy (?Tv H1 C (Co ?ee ?c8 ?ky)):=?gj;let hcl:=Zq ns ?c8 ?ky;(let Dl1:?U1 ?I9 40:=by unfold AW;rw[qc3,?Wk (?q2 ?da 0 ?c8) 1 1,?Wk (?q2 ?da ?da ?ky) 21 21];first | show qa4 zn6 ?gi | ext d);apply#[C,?I9,20,?bg,?l,λq NB H' ys hq s' hq' r' hsh hyl=>?_];{rw[←Uu];show ?ag};show ?T5 #[?St,hsh,?l]};clear hp1 r hs B8 s1 vG;ext qk;intro sq;apply ?Sv (Kz λ(p:Addr) (B:Hp) ?DP=>Bv (σ'=(?XM ?cs o3 ?a4)) (BookAt K ?aJ B p xs ls) (?Xy B) ?NV);{apply#[?g,p1,?aD,?uM,λC nC=>?_];let s2:?Xy ?NU:=?L nC;let hC:?q H1 C ?hI C=?e5:=Ab;generalize ?NU=H2 at s2 hC ⊢;intro p dx np ndx Ax4;let s3:?a09 (?U0 (?q H2 dx ?rQ) ?aJ []):=?mA np;apply#[p,dx,C,us,H1,?di,Ab,?Y5 hC,r,?fP,nC,?fO np,?b3,λB ls H4 sx bk s1B sBH nB=>?jn];show ?T5 #[p,B,ls,?h,bk,s1B,sBH]};apply vP λp B ls H4 bk s1B sBH=>?_;intro sq;let hLB:LT K B ?jw xs:=(?Z3 s1B s1B);let hSB:=(?bS s1B).seq hS;let ?Rp:=bk.ob;ext z4;let n4:=bk.n4;let bw:=book_w75 bk;apply ?Sv (Dn λ(hd:Addr)=>Ft (?a0B none) ?NV (J8 ?wV H' hd ?n6));{apply#[?g,?a2,?a2,?ex];have Cj6:?aG:=λi ys τ G=>Di (?p B G) ?CE (vK G E ys ((?n6).take i)) (i<=4) ?Mm;apply ?UO Cj6 #[sBH.trans ?hV,Ab,#[?h,λj v ps e=>?k4],?a2,?g];{rintro i ys τ G hi Cl;revert τ;apply ?fK;intro g BF hN hi4 o Db;rw[?f4];let hi:i<4:=hi;(let hyl:?mn:=by let:=hN.1;rw[qc3,qa3]at this;ext d);apply(?TV g g (λps' D us' G1 XU nD g1 hD rP=>?_));(let hps:?V5 ?n6 (noB ps'):=by rw[qa6];rw[qb8]at XU;rw[XU];rfl);(ext Sh);let hE1:=?rG;apply(?WU (sBH.free hE));rw[qd9,hps];show((hN.same g1).snoc nDE hD rP.out).put hE1};rintro ys τ G ⟨g,BF,hN,_⟩;rw[qi6 (by rw[qa3,n4];show qa5 4)]at hN;show ?T5 #[E,?h,g,hN.at BF]};apply Sy λhd H5 s5 hH=>?_;intro sq;let lfl:?V2 ?Ps:=P9 _ _;apply ?Sv (Ji λ ?Kl (wv:?b1)=>Bv ?MN ?tI (?XJ la wv) (Fy ?wV H' wv ?fg));{apply#[?g,p1,?aD,?Xx (?G6 s5) hp1,?g,?N,?ex];rw[qb8];have Cj5:?aG:=λi ys τ G=>Di (?p H5 G) ?CE (Fy ?wV G ys (?tx i)) (i<=us.length) ?Mm;apply ?UO Cj5 #[?hV,Ab,#[?h,λj v e=>?k4],?l,?g];{rintro i ys τ G hi Cl;revert τ;apply ?fK;intro g BF dd hil o Db;rw[?f4];(let hyl:?mn:=by let:=dd.1;rw[qc3]at this;ext d);let gB:=?EO g;apply#[?g,p,dx,?g,?Yx gB,?h,?g,p,?aX,?df,gB,?l,?VG ?q9 ?CQ,λD G1 nD g1 hD=>?_];rw[qb8]at hD;let hE1:=?rG;apply(?WU hE);(ext Sh);(let e6:?tx ?aZ=?tx i++[(?fg).getD i []]:=by rw[qd9,qa1,qa0 (?c6 lfl ?CQ)];rfl);rw[e6];apply(?FV ?h hD).keep ?Oe;rw[Aj λz=>by rw[z,hE1]at e;cases e];show e};rintro ys τ G ⟨g,BF,dd,_⟩;rw[qi6 ?l]at dd;show ?T5 #[E,ys,?h,g,BF,dd]};apply pV λla wv H6 s6 hla dd=>?_;intro sq;let sB6:=?sR;apply ?Sv (?MN/\?YE H6);{apply#[?k,?g,p1,hd,la,xs,_,_,wv,?g,?a8 sB6 hLB,?jb s6,hla,dd,bw,?M1];apply ?b8;show ?IW};apply Gm λH7 s7=>?_;intro sq;let sB7:=sB6.trans s7;let hH7:=?jb (s6.trans s7);apply ?Sv (Ji λo7 o8=>σ'=?KU/\?YE H7);{apply ?x3;have Cj4:?aR:=?Xb (Ji λo7 o8=>σ=?KU/\?p H7 G);apply ?UP Cj4 #[_,?g,?gA];{rintro i σ G hi Cl;ext f;revert σ;apply ?gr;intro o7 o8 g Db;rw[?f4];let hi:i<4:=hi;obtain⟨ps,hps⟩:?vS:=?fe;let lv:=?HQ;let hpl:=lv.len B8;let nl:?r7:=?rz;let ods:=Oj.orders lv;let cl:=?QX List.length ods;rw[qa3,qb6,qj4]at cl;let sBG:=?Qo g;let#[qs,D,uk,ps2,hu,hat,hD,rP,Bm3,_]:=(hH7.same g).at (j:=i) ?QD;rw[qa6,hps]at Bm3;cases Bm3;let ul:=?hO;apply ?s (λσ' H'=>Dn λ ?il=>Ft (σ'=(?XQ ?aI ?bR ?cD)) ?fk (H' E=?j (?y ((?iu (·.1)).map ?S)))) ?t ?_;{apply#[?k,hd,qs,?i,?sG,?wQ,D,?h,?Bp,λE nE=>?_];have Cj3:?aG:=λj ys τ G'=>Bv ?rL (G' E=?dk) (ys=((?jM j).map (·.1)).map ?S) ?dW;apply Cs (K:=K) (a:=D) (xs:=uk) Cj3 #[?L nE,Ab,?h,?O] (λj ys τ G' _ hz=>?XI #[g',_] g' hD) ?_ ?_;{rintro j v ys τ G' hv Cl;revert τ;apply ?az;intro g' BF yl o Db;let hj:=?cJ;obtain⟨w,hw⟩:∃w,?a0c ?g8 w:=?fe;let#[t1,c1,c2,c3,?aB,et,_]:=(?m4 g').2 j v w hv hw;(let oZ:?jM ?db=?jM j++[w]:=by rw[qd9,hw];rfl);apply#[?g,t1,_,?i,?fB,BF,?bz (by rw[yl,qa3,qa3,qc3];ext d),g'.turn nE,?W,?g];rw[oZ,qb2,qb2,yl];rfl};rintro zs τ G2 ⟨g2,BF,yl,_⟩;rw[ul,qc8]at yl;show ?T5 #[E,?h,g2,by rw[BF,yl]]};apply Sy λE G1 g1 hE=>?_;intro sq;let a1:=sBG.trans g1;apply(?TV a1 a1 (λpx J1 hpx j1=>?_));rw[qb8,hps]at hpx;cases hpx;apply#[?Ws ps,?Ws ps,?K,?g,?_];apply ?ma;let a2:=a1.trans j1;apply(?TV a2 a2 (λpx D1 J2 hpx nD1 j2 Dv=>?_));rw[qb8,hps]at hpx;cases hpx;apply#[?aH,?vh];let j3:?p J2 ?EP:=?vF;let e3:?q J2 l ?ej l=?uF:=Ab;generalize ?EP=J3 at j3 e3;let a3:=?TM a2.trans j2 j3;apply(?TV a3 a3 (λpx J4 hpx j4=>?_));rw[qb8,hps]at hpx;cases hpx;apply#[l,?i,j4 _ _ e3,?N,?e9,?mN];rw[qb8,f8];let j5:?p J4 ?CK:=?rC;let e5:?q J4 D2 ?sL D2=?j ?sL:=Ab;generalize ?CK=J5 at j5 e5;let j25:=?TM j3.trans j4 j5;apply#[D1,D2,?i,?T3 j25 Dv,?x4,Bl (by rw[qa3,qj4];ext d),λD3 BG=>?_];let j6:?p J5 (?Tv J5 D3 (?a0N twH ps++?BC)):=?L BG;let g6:=((?TM ?og j1 j2).trans j25).trans j6;let h6:=(?TM j1.trans j2 j25).trans j6;apply#[?g,?y (Ek (?iu (·.1))),?y (Ek (?iu (·.1))),#[D3,?g,?ag,?wR ?_],#[E,?g,?T3 h6 hE,?ou],?QM,?_];{rw[ods,qb2,zb5]};rw[Uo];apply ?bq;apply ?b8;show#[_,?g,?d6 g6]};rintro σ G Cl;revert σ;apply ?gr;intro o7 o8 g Db;show ?T5 #[_,?g,g]};apply VP λo7 o8 H8 s8=>?_;intro sq;let sB8:=?Qo s8;apply ?s (λσ' H'=>True) ?t ?_;{apply#[_,?g,?a2,?_];have Cj2:?aR:=?Xb (Kz λo9 o10 o11=>σ=[?x,?cV,?cs,o3,?a4,?aj,?aI,o7,o8,o9,o10,o11]/\?p H8 G);apply Ce (lo:=1) (n:=3) Cj2 (?YP ?gA) ?_ ?_;{rintro i σ G hi Cl;ext f;revert σ;apply ?f0;intro o9 o10 o11 g Db;let hi:i<3:=hi;let sBG:=sB8.trans g;let LZ:=?a8 sBG hLB;let hpG:=(?G6 sBG) _ _ hp1;apply ?Sv (Ji λ(M:Addr) (ms:?bP)=>Bv (?Xv o11) ?fk (?XJ M ?jA) ?RA);{apply(?X9 p1 ?n hpG);rw[qb8];have Cj1:?aG:=λj ys τ G1=>Bv ?o0 ?LO ((∃ms:?bP,ys=?jA/\ms.length<=j/\?RA)) (?TJ [o,?cs,?vo]);apply X0 Cj1 (?Wz #[[],?h,?hv,λx hx=>(by cases hx)]) ?_ ?_;{rintro j ys τ G1 hj ⟨g1,Cu,⟨ms,rfl,hml,hms⟩,o,rfl⟩;rw[?FJ];let#[u1,v1,hu1,av1,tv1]:=?cF (i:=?e7) ?xq ?l ?DY;apply#[?k,p1,u1,_,v1,?K,hu1,av1,v1,Ek _,?h,?a1 tv1,?g,?h,?g,?_];rw[?Tm ?Ks ?Ef];apply ?av;{(let e:?KJ:=by cases z:?KJ;{show z};show ?dB h1 (noI z));apply#[?g,Cu,?d1,?zZ,Ab,#[ms++[?e7],?cq,?gx,?GS],?g];rcases ?qP hx with z | z;{show hms x z};rw[qg5]at z;subst z;show#[?l,by show ?DY,e]};show#[g1,Cu,#[ms,?h,?l,hms],?g]};rintro ys τ G1 ⟨g1,Cu,⟨ms,rfl,_,hms⟩,_⟩;show ?T5 #[D,ms,?h,g1,Cu,hms]};apply pV λM ms G1 g1 hM hms=>?_;intro sq;let sB1:=sBG.trans g1;let vG:=sB1.seq hSB;apply#[?g,M,?g,?u ?wL,?i,?g,?_];apply ?UT (?YP ?gF);(let h1:?bW<?wT:=?a5);apply ?Sv (Dn λ(x:Nat)=>Bv (?Xv (?Zg ((x:Int)))) (G1=H') (x<xs.length) (?Ym x));{let m0:=qp0 ?u4 (?TD (?wT≠0));let m1:=qm3 ?u4 h1;(let hj:?l7<ms.length:=by rw[qa3]at m0 m1 ⊢;show ?uP);let#[x0,x1,x2]:=hms _ ?xT;(let hat:?Z0 ?jA ?tF ?tz:=by let:=Bh (xs:=?jA) (j:=?l7) (v:=?S ?tz) (?U5 ?nU);rwa [?TU (((?l7:Nat):Int)=?tF)]at this);generalize ?tz=w at x0 x1 x2 hat;apply#[?k,?g,a,ns,?g,vG,?l,hl,?g,M,?g,?u ?wL,?i,h1,M,_,?i,?wL,hat,?_];show ?T5 #[w.toNat,by rw[show((w.toNat:Nat):Int)=w by ext d];rfl,?h,by show ?pn,x2]};rintro _ _ ⟨x,rfl,rfl,hx,ex⟩;apply#[?k,?g,p,p1,x,?df,sB1,?xq,hx,by rw[ex];ext d,?PS];apply ?b8;show(?YP ?vH)};rintro σ G Cl;revert σ;apply ?f0;intro o9 o10 o11 g Db;show ?T5 ?w8};show λσ' H' _=>kq _
universe e9
def Ke[?kT](h:∀a0,P [a0])[?kb](hl:?Tl 1):P us:=by cases us with| nil=>ext br| cons a0 u0 =>cases u0 with| nil=>show h a0| cons _ _=>simp at hl
def Dp[?kT](h:∀a0 a1,P [a0,a1])[?kb](hl:?Tl 2):P us:=by cases us with| nil=>ext br| cons a0 u0 =>cases u0 with| nil=>ext br| cons a1 u1 =>cases u1 with| nil=>show h a0 a1| cons _ _=>simp at hl
def Ge[?kT](h:∀a0 a1 a2,P [a0,a1,a2])[?kb](hl:?Tl 3):P us:=by cases us with| nil=>ext br| cons a0 u0 =>cases u0 with| nil=>ext br| cons a1 u1 =>cases u1 with| nil=>ext br| cons a2 u2 =>cases u2 with| nil=>show h a0 a1 a2| cons _ _=>simp at hl
def RH[?kT](h:∀a0 a1 a2 a3,P [a0,a1,a2,a3])[?kb](hl:?Tl 4):P us:=by cases us with| nil=>ext br| cons a0 u0 =>cases u0 with| nil=>ext br| cons a1 u1 =>cases u1 with| nil=>ext br| cons a2 u2 =>cases u2 with| nil=>ext br| cons a3 u3 =>cases u3 with| nil=>show h a0 a1 a2 a3| cons _ _=>simp at hl
def yH[?kT](h:∀a0 a1 a2 a3 a4,P [a0,a1,a2,a3,a4])[?kb](hl:?Tl 5):P us:=by cases us with| nil=>ext br| cons a0 u0 =>cases u0 with| nil=>ext br| cons a1 u1 =>cases u1 with| nil=>ext br| cons a2 u2 =>cases u2 with| nil=>ext br| cons a3 u3 =>cases u3 with| nil=>ext br| cons a4 u4 =>cases u4 with| nil=>show h a0 a1 a2 a3 a4| cons _ _=>simp at hl
set_option maxHeartbeats 4000000 in def Ci7:?xr:=by unfold good;intros;let e:=hfa.symm.trans (?UC Bs7);cases e;let T:?Jo:=#[?UC mR,#[KZ,lZ,kX,KS],na_Lines_rows,na_Lines_backs,?UC HS,#[fW,gM,fV,FU],na_Stairs_rows,na_Stairs_backs,na_Stairs_starts,?UC rX,#[qJ,rA,QH,QF],na_Work_table,na_Work_width,na_Work_left,na_Work_right,na_Work_numbers,?UC RY,#[QJ,RA,qI,qG],na_Book_pieces,na_Book_levels,na_Book_lifts,#[bH,?UC RX,?U4 QT 5 (?ip ?c0 ?Gr)],#[Jz,?UC U0,?U4 Ub 4 ?Gr],#[_,?UC Zu],#[_,?UC HQ],#[_,?UC Ux],?To Ya,?To Aj0,?To vO,?To pU,?To Ai5,?To Ai8,?To Ai9,?To Aj2,?To PU,?To VN,?To Aj1,?To Ai6,?To vN,?To y4,?To Ai7];let La:=jG (st:=F5) V8 Wt O8;let Mv:=jG (st:=Gg) Y5 Zt Mn;let Ol:=jG (st:=Hf) aD AL Oa;let A83:=jG (st:=N6) Bk4 Bs3 Bk7;apply#[?LN,λs v=>.of_eq ?h,λb _ _=>UI (λ{_ _} A83=>?_) A83 b];let Hj:=?T0 dP (lF F T) ?bI;let Im:=?T0 Qi (Yv F T) ?aM;let Hi:=?T0 DO (lE F T) ?bI;let Rs:=?T0 Wg (cI F T) ?aM;let Vh:=?T0 MH (tS F T) ?al;let Rp:=?T0 rN (wU F T) ?aM;let OT:=?T0 RM (WT F T) ?aM;let L3:=?T0 Qk (Yx F T) ?bI;let jF:=?T0 MG (tR F T) ?aM;let DE:=?T0 gW (oA F T) ?aM;let Kq:=?T0 RN (WU F T) ?pX;let Uh:=?T0 Zg (eS F T) ?aM;let bF:=?T0 MI (tT F T) ?bI;let dD:?QI:=#[_,_,#[GH,GJ,gJ,O8],?KX,Sj La T ];let No:?IH:=#[_,_,#[LO,Ww,Ue,LV],?KX,Sj La T ];let Qe:=?T0 dN (LC F T) ?bI;let Rq:=?T0 Wf (CH F T) ?bI;let Ug:=?U9 aK (iT F T) ?aM;let Ko:=?T0 Of (Xo F T) ?bI;let Id:=?T0 gY (OC F T) ?bI;let Fb:=?T0 GY (OD F T) ?bI;let D6:=?T0 Md (Ty F T) ?bI;let Kr:=?T0 AH (IP F T) ?aM;let Ix:=?T0 AI (IQ F T) ?aM;let Jd:=?T0 Zk (eU F T) ?aM;let Xu:=?T0 aH (iP F T) ?al;let Uk:=?T0 Zl (EU F T) ?aM;let L4:=?T0 Ql (Yy F T) ?aM;let Ru:=?T0 Wl (cL F T) ?aM;let Fj:=?T0 Qj (Yw F T Hj) ?aM;let Zb:=?T0 yK (Ac7 F T Vh) ?aM;let By:=?T0 Og (Xp F T Hi) ?aM;let Iw:=?T0 Ma (Tu F T Hj) ?aM;let Du:=?T0 GX (OB F T jF) ?aM;let Wb:=?T0 YK (Ac8 F T DE) ?bI;let Ui:=?T0 Zh (ES F T Kq) ?al;let Xt:=?T0 aG (iN F T Vh) ?al;let Y9:=?T0 mG (TQ F T Kq) ?aM;let Pb:?zx:=(?WW Zy);let L1:?L4:=(?WW U1);let j9:=JE fY GF Sn (λF=>i6 F T dD) ?al;let Eh:=?T0 Zm (eV F T Id Fb) ?al;let Da:=?T0 Wn (cN F T D6) ?aM;let Oe:=?T0 mJ (tU F T D6) ?al;let Pf:=?T0 Ut (aT F T Jd) ?al;let Rw:=?T0 Wo (CN F T Ru) ?aM;let Dz:=?T0 L8 (Tt F T Fj Hi) ?al;let Ch:=?T0 Wi (cJ F T Fj) ?aM;let m8:=?T0 DP (LF F T Iw) ?aM;let Np:=?T0 GV (NZ F T Ui) ?al;let Qf:=?T0 DR (LH F T By) ?al;let Mr:?GK:=(?WV aP);let Dm:?IF:=(?WV Wv);let jD:=JE QO qW Wj (λF=>CJ F T No Wb) ?al;let l9:=?T0 dO (LD F T Zb Rp) ?aM;let dF:=?T0 GW (OA F T Zb Rp) ?aM;let Xv:=?T0 aI (iQ F T Eh Id) ?pX;let L5:=?T0 Qm (Yz F T Fb Da Oe Kr) ?pX;let Uj:=?T0 Zj (ET F T Pf Xu Jd) ?al;let xZ:=?T0 yL (Ac9 F T Hi Rs Dz) ?aM;let DF:=?T0 gX (oB F T Dz Hj) ?pX;let Cy:=?U9 Mc (Tw F T Dm) ?al;let Mq:=?U9 Zi (eT F T Mr Pb) ?al;let l8:=?T0 DN (lD F T Np Du By Qf) ?Et;let Hg:=?U9 Zn (EV F T Ch) ?aM;let Mt:=?U9 Zo (eW F T Ch) ?aM;let Pc:=?U9 Wp (cO F T Ch) ?aM;let Rv:=?T0 Wm (CM F T Eh Xv Fb) ?al;let Mz:=?T0 DQ (LG F T DF) ?al;let Pd:=?T0 Ur (aS F T xZ) ?bI;let Pa:=?U9 Wk (CK F T Cy Dm L1) ?al;let Ly:=?U9 Sl (g9 F T Cy) ?bI;let Hy:=?U9 Mb (Tv F T Mq) ?bI;let Xw:=?T0 aJ (iR F T Rv L5 Da Oe Kr) ?al;let F6:=?T0 Ig (Ny F T Mz) ?al;let m9:=?T0 dQ (lG F T L3 Pd) ?bI;let Lz:=?U9 Sm (i5 F T Qe Dm Pa) ?aM;let Vg:=?T0 mH (TR F T F6 Xt) ?aM;let Za:=?T0 GU (nZ F T j9 No Lz Ly) ?al;let Rt:=?T0 Wh (CI F T Vg) ?aM;let Pe:=?T0 Us (AS F T Ch By Du Uh Vg) ?aM;let Oc:=?U9 AG (iO F T Za Du) ?bI;let Jy:=?U9 Oh (Xq F T Oc Rq) ?bI;let Uf:=?U9 AJ (IS F T Ch Rt dF Mz OT Zb Rp) ?al;let n0:=?T0 dR (lH F T jD Jy Hy Du m8) ?aM;let Nq:=?T0 So (i7 F T Da Uf Fb Eh Hg) ?al;let n6:=Bm X G dS (λF=>lI F T Wb n0 By Np l8 Du Pe) ?bI;let JD:=JE qP QW Wq (λF=>CO F T n6 l9 m9 Ko) ?aM;show Aw9 A83 T Uj Uk JD Ix Rw Hg Ug Xw L4 Id Nq Mt Pc Fb
def all_mk{l:PySem.W.OpenLaw}[?zF]{C_Lines C_Stairs C_Work C_Book:Addr}:?Vg l.prog:=YB Ci7 _ _ _ _ _ _ _ _
def walk{l:PySem.W.OpenLaw}{q:Program}{loose:?aC}{XP:?fo->?Ep}{YP:World->?Ep}{d:DefRec}{K:Params->PySem.W.Frag}(hn:l.most=?mx)(hdf:d.params.defaults=[]) (hY:∀(w:World) (h:Heap),YP w h->?sy h) (F:∀(w:World) (mg:?fo) (fa:Addr) (h:Heap),?sy h->?sS->mg d.name=?VA fa → ∃fd:FuncData,(∀(s:Shared) (u:Value),?WE u (?hg,u))/\∀base:Heap,?sy ?m->?VW l.prog ?wM ?Jk) : PySem.W.WalkO q loose XP YP l.row.toRowW d [] (λf vs=>PySem.call f vs) :=L2.walk_ofB (n:=63) (k:=14) (x:=?hg) (CX:=λ_=>Ej) (sp:=λw=>?Jk) hn ?a2 hdf #[?h,?a2,?gN] hY F (λ_ _ a ns hl A42 _ hS=>#[a,ns,?fD,hl,A42,?JA]) λ_ _ _ _ _ z=>z
universe Hb
universe Internal
open Internal
end
mutual
#check(0,[])
namespace PySem.W.Fast
universe t_l0oBxQSgeI6 t_ay1hUtRlya3 t_23ADXhU821o t_bSsWCZolc1t t_b6kwA4bTVIL t_9aC1bg1CAg0 t_3earszHcuZ1 t_fcfCxd580X5 t_qw5v6Yemrs t_8EkBVvBM8OM t_hOt63g1rd t_dqlxq5VzNS2 t_4V2nJDEy8Zk t_ei7zPEzQJoD t_7rSsTfpl80B t_j2HLF1fuXA6 t_fmivnQrZORG t_3IbZOVJ7ixq t_aCno85xcYsf t_lwoJVcGP339 t_a85rETT1lvu t_aBwXggHR7Um t_jtGAZCY5shD t_4cLLV73P09I t_aS1q5oZN7pJ t_gGESlWObhV9 t_jPzQ5F0NMxw t_46GYs8lR8dy t_icygnQDUeG8 t_lkOgQ4Bpx1d t_cmiqR3Tb0yl t_fZfqR3tqVEu t_b7t3j324BSx t_1z7AYxobHo9 t_cYxadr46RXJ t_93D6YPNyvlt t_h3KovTi1CFM t_iaXDmiZromU t_ggTthxTW0o t_bV8Hh0FtYKD t_cjezddOXmYj t_eClLpI7qvnw t_aDcWG3vMNRA t_lsUB9phTbVj t_4DRJTH08bGN t_4Lj6yOPIfh9 t_9vZM1zHIjCD t_iV83UBHmr27 t_kXD1iFe648y t_24hCLpwt1gr t_9xtu3dHDnSZ t_b3mruKH6ISD t_9yywiUqj1gD t_htegw2TzQFA t_dR200z6cNer t_gs67WMIj2K8 t_aux4NDJnV9V t_f1pesL8P4Tk t_5ytcp4Dalf6 t_15wk1rZtXz2 t_8842YUxQrtv t_sij9HHMz7s t_lgUgi5EYlnT t_6epPNNJXO5P t_vERCOzyq05 t_iOrbb8NRD4e t_hiGU8Of6FCs t_AywTvWilHS t_5U51NUpm0JK t_iEPL0sGGNCX t_d3kIHQa9scI t_iK7ncJsOPme t_7hW0OSpYW2T t_47eMRmHSRxd t_9RCIwYOVqvS t_4l5rrMG3DLO t_i5wYcXd4PBU t_1mo7uuKax3d t_avXtkSySAxH t_3LOwibG31Xg t_7VdlcIfhXLs t_ftROofI0Hdz t_brfn2XuRlOj t_8V8BUFArgHO t_jfGGRYISK3t t_9nFuM2byIfp t_5bEcA0buF5V t_c8PvHq9clWg t_dETyTF7hfcc t_aSHQ4jHiblv t_vZPpbq32IL t_lgYBSRp9bSd t_7uKVquqRZ2a t_hLyZPYArLYe t_l4oM4EM61S2 t_2Qg2lZc1FR1 t_bJai5BHJ0ag t_l8EhNEad3ZU t_53TsitTTcCA t_9Wmx06izIwZ t_7TksaSzE5mT t_lF7Beg0eIS t_8HR5vzV64V7 t_9Lw2hB8ph2W t_goW8gZdsTlL t_7eaZeMEuLRs t_fakYhLile9 t_bfIZPwtVlE7 t_hmdIiFVwVyP t_chKvmCxru1S t_fC4lICXO0pm t_9OvHKo3bDNT t_hsg8DRp4aMT t_jmuwA4D4Vc0 t_88IaYROAFbK t_5z63AaTMVLK t_bTGSsYCsuvO t_5tVzn8PDZuc t_fV0xV4tLubu t_6lgr7Wmi9xi t_45SMn8fr32C t_5vl34c0otcN t_aOcIXTNlIO7 t_kSBhDqcjxB6 t_bMw9AZQaB5d t_DjiQqIFsnZ t_23vR5afH2y5 t_dUo8KytyTnM t_dafTDmtWWfA t_bPhGwCDVtz4 t_hRKMmXvyvoy t_ixmqpEiW4OP t_lMPRKd6Y9tt t_anETJ397WDq t_1uIc4dO1UQ8 t_6HFffZZj2Li t_62V955KkKN1 t_8bR90aok3Gz t_lGlPStZK8c9 t_kgO9fquTme6 t_iFwa1kfyMBB t_4Q7bkGOj75x t_7AbKRh7N67S t_4Bzx6P1nUj7 t_2um3r3yv0eM t_9sPycutYqYp t_lgUL3kYQHNh t_geYkTiJps6M t_hCcS2GYuzNb t_i3AesyZdBxz t_bVUFVitnEl5 t_dCvR6W1V4lp t_eOADeX3kG98 t_ax2iqIbvg93 t_dYkchjmjZqb t_cZjTF1MQAku t_e0ZVHVyZ759 t_45gEx1Hcn02 t_Vq0p5tSvHR t_jSgBTVStK9Z t_8rHyKKQ2H0o t_eDk2qI40fh2 t_8IpOPqjqXmq t_aEhNQ8IXv2a t_CBv5HA8vue t_3yjDl02FVHX t_jQ14nHKdQKv t_hyqUxWAIjTA t_k52O6h6FKXw t_2wfeKZLwxuZ t_iUEhb8DWiEp t_9PY0Rv8nPbU t_lTK4aXbGWoo t_aF2WzRE0GvS t_l6kEC4h2eFf t_b8cY6yLHLby t_dnJul8V2Nia t_dGL9ltNZNhE t_kijbgiTM8h5 t_1Ww5KSHcLgq t_5rplWAkwcLL t_hBwFyyccIPK t_giOjO0mk0l3 t_6QXgPlUHjPb t_dutrBDUE0QX t_kFxtCDa9oA7 t_2N10Fc46Ghf t_1FV9OvyKD6E t_gOqw97mvxZk t_fxD8DVAYE3Q t_6I2GfnM5mTo t_1dQbQ6AugHi t_lY8mqobPG9G t_71UcL2fe95C t_lSyB3BAVPZl t_lbZMKTUznXi t_2wPfHLcfaj1 t_7VntLxOrgSO t_5NPSszzsVIy t_ca4gk3yVGDJ t_gnfk5QfQZJm t_pRu2S6Iit9 t_kTiQVqqkwuO t_hHuDYQ8jE1k t_ja1k5suZF6G t_80fkT5B1f4G t_KEndEKCXOB t_iLukR1X9xNl t_dXD6qP1pEFe t_kidTqfzUIlF t_iRcjw95uhTY t_dWLeqGoBxlW t_d7UPm6B9HhJ t_q09CSmb0yN t_cv9cyU4fFib t_2H7gYTzLqDs t_l3j9ZGcA7a4 t_kXZeSm2adGC t_j6YnW18e6Yh t_35OctrZQp3z t_2csyuqTFdF1 t_2z5sC7B4cnx t_lwTM7eCgZdP t_963EDy0cN0o t_tVc3CgCoQG t_gN8VFDqLohP t_aqLYgJ2sQ8X t_dUUr0NyUAtf t_9dcB7GrIZCa t_26Vz6AlyDMW t_huua57Ujp1Y t_aYoSoMxf5MA t_dc33mzLefgp t_eONErg2NMlv t_acacc0Q7lpm t_5QBIEq8eGBK t_ltr6j6F3pbJ t_kEz2GfSetat t_3LRUqC0KvRA t_eoWdm4Tj469 t_1fIIHPjAW33 t_OKChtTLBw t_9MhASFUAR32 t_k7EnQYdAXHh t_dfb158eGj1k t_4bqmRSzDSLu t_j9xd40tXSWH t_7DuP5hjJYF5 t_c9sWrqWBq1J t_3PYC18m1xUj t_5Sh8yy6vYRV t_dHEJFUKqcAf t_5R8SyD8kMrR t_4G1iigMaUtI t_9il2OBkD7we t_4fmVIGEXfwi t_hQYbjfyW2O1 t_aOgd50D99Cg t_jAJtLkuZVW8 t_59BnHSKIMaj t_7gUYCx5xb1W t_6XQ3wB8CqVr t_6UlbcY2ntEZ t_2KT3NjjhieJ t_CDRenD0e0o t_hVLKYeXrcG9 t_fRoWQu9UbP5 t_1HjrPd0Q9np t_3g2J2KeE0PN t_fbdmfTUCT1y t_6165YSh1aWE t_iwJU2xjS4uE t_i99KlgDToFJ t_k4CFcYjVCXA t_gl2djwZezR4 t_4jCc0KTg4WY t_aWs494ApuCQ t_4tOGIkSnFsR t_7gh1amIhjZD t_8YBxLmnrV5t t_dKK9dMYUCup t_gT93e48uobD t_aWIf0Ywsp6Q t_jQ0lN1XXacm t_aS0x7gWMcIb t_7E5zIzqbvBb t_gw9TugwWrAK t_dzCXRjBEx6D t_7UDDnPJ0DrG t_l2sAJyIYBQR t_aS8DgE0LVdj t_ckXo9dYF1aR t_aiNHhFd5NCM t_zzYNmlpJHH t_3xfmmXI7pKT t_epiEBVWeARJ t_lLbyndTwGzT t_dBqeRjKY2BJ t_WCuDY93avc t_27uPyAmFXWN t_gBxDdw1taSp t_i4M6JsCryq t_1iSh2yxreas t_jYJbRFYDCwh t_mDR97WtWU3 t_ghwPMPj9Pz5 t_1WtJTMwTuZv t_85YFf2P5KNk t_d5WQ8NP4Lfn t_82CKNm1JAZY t_4KfaoPJP0eQ t_jLL832WKZYI t_gb1zV5cibPM t_2f46qThKg7 t_kb1McF87DCk t_egM0wlxntDw t_deMdGK2HO2D t_5bJqM2l6esY t_jEOn5m8uvGs t_kJTzvO86Msg t_iIdqPA4IRLk t_n7dAxjqOCX t_4bhzGmbYmYy t_8uWlZIiA7mp t_7xwPtBi8JWx t_9Fef7Tt6KSC t_62DgQstXUeB t_fagCYEvWrnT t_jQW4sDKoHD6 t_iJzchFyJMfm t_ehwSk7WCWC0 t_3Wj159DkzBD t_eAZrnlEsDkb t_14IISULTPQI t_jLQkG0nJ2WJ t_9KfIAs3FviE t_lc0ErHMOUoT t_6N3wOPUDP0 t_jq5bqCOqlzH t_ic9cRzhHGz t_dIJP8bj9MgT t_7IZZrEMpAcR t_jfmwERSJEk3 t_kQ7fsOYJG5z t_cdSZjW0XEsJ t_8ce1NnaheYD t_kkKs5vO5FJY t_ai44CIttXay t_hpM7TAiESK4 t_jFa2ORToOYy t_jNtohqtAxRq t_26yH4bu6dbB t_dXEVY2yzwc1 t_bZGIXy9E7AD t_buZps6MRH9t t_jUlgSDzHvW4 t_en1JRaFN924 t_5tfV3KwZANE t_6hbe5aopJLs t_h8ta0IKEGmc t_d06D8aKIfjy t_3wneOD6VZ4 t_5WgC0pMfTFw t_jvzzl0SM7vU t_4lNks0xI71T t_fUO7TkF6VRC t_evQpAfBW8Po t_ifg9iE73HyC t_blZKHccKYFr t_lsDhfNuiz4s t_72hrAVlYRWt t_ehT3QK6rtb6 t_hn2GkrvlSD8 t_5f7kpsdnklt t_gSGuUmx4Yk t_73hYtMa5mHv t_1k3vYsqXWxi t_hdEwKLl5h2n t_cwM7bgj1PBg t_iwHKD65heyy t_jT1Mudz4Y07 t_1VbMaFjanF9 t_c005xFtb86U t_jqzkoQdrt0a t_9xxLj7Sy7yz t_fnYuPSSmeTA t_evlJaXpWbtK t_9wISWY5NCI2 t_gKSNMbity1u t_a32Rx0DxP27 t_cT6EQ0UFsv t_ki8mYqck6ia t_4EcxSfaw3UC t_61d2rQCOx8Z t_16dF1a0CMVR t_a2uLAOCZVxq t_jvTD1rSwab8 t_aiF0XngM3kB t_lX2ED1aicf0 t_j0vpoCuXuZT t_hIxzV4PaYhB t_2VCRYF8K3dh t_9UeC1Yc3kih t_c1079g6iFg1 t_d6WLv0lfZSX t_9svrU9ILdlE t_23XTfCNGUsp t_4Zq2TL2W6YO t_jHthqst7v9C t_faq21ShtotJ t_3hFj3LHD0SI t_8oscizMp17w t_8It5ep1NHoS t_cKVECT4IjgS t_l4idbOFLssA t_7ufLg3l1y0K t_5VZWVsHOZec t_lDJRpBLIxoG t_7GPr1b895xa t_2DCCLNk4VEc
universe PySem.W.Fast
end
open PySem PySem.W PyProof.Rows
set_option maxRecDepth 100000 in
set_option maxHeartbeats 0 in
theorem PySem.Challenge.cw_holebook_k75_whole_book_of_any_shape_holds : PySem.Challenge.rw_holebook_k75_whole_book_of_any_shape.Holds := by
 w_on;o_law;k_head;(case hw=>w_witness2)
 k_fill
 refine Hb.walk (l:=PySem.Challenge.rw_holebook_k75_whole_book_of_any_shape) rfl rfl (fun w h Y=>PySem.W.kIn_of Y) ?F
 case F =>
  intro w mg fa h KX G hmg
  refine' Hb.all_mk KX G hmg ..
  all_goals try first | exact⟨_,_,by k_is,⟨⟨_,_,_,_,_,_,_,_,_,rfl,by k_is,by k_is⟩,by k_is⟩⟩ | exact⟨_,_,by k_is,by k_is,⟨⟨_,_,_,_,_,_,_,_,_,rfl,by k_is,by k_is⟩,by k_is⟩⟩ | k_is | kit_is | kts_isx | k_exc | k_qdec | kernel_rfl | decide +kernel
