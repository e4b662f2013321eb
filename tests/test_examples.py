"""The examples of the document, as they stand there, for what is built."""

import doctest
import unittest

EXAMPLES = {
    "4": '''
>>> from signskept.dresses import Dress
>>> [str(Dress("s").widened("z")), str(Dress.both().widened("z")), "z" | Dress("s"), Dress("zs") - "s"]
['z', 'zs', Dress('zs'), Dress('z')]
''',
    "5": '''
>>> from signskept.wides import Wide
>>> one = Wide(6, narrow=3, wide=5)
>>> [one.low, one.top, one.dress, one.widened("s"), one + 30, 1 - one]
[6, 1, Dress('z'), Wide(30, narrow=3, wide=5), Wide(4, narrow=3, wide=5), Wide(27, narrow=3, wide=5)]
''',
    "7": '''
>>> from signskept.known import difference, known, narrowly, reckon
>>> from signskept.wides import Wide
>>> x = Wide(20, narrow=3, wide=5)
>>> both = known("and")
>>> [reckon("shr", [x]).low, narrowly("shr", [x]), both.gives(["z", ""]), both.gives(["s", "s"]), difference("equ", ["s", "zs"], narrow=2, wide=4)]
[2, 2, Dress('z'), Dress('s'), None]
''',
    "11": '''
>>> from signskept.programs import Program
>>> from signskept.roads import Walk
>>> from signskept.tables import verdict
>>> rows = (("do", "a", "add", "x", "y"), ("do", None, "ult", "a", "x"))
>>> program = Program("p", {"p": (rows, ())}, starts={"x": "z", "y": "z"})
>>> told = verdict(program, ("p", 1))
>>> fixed = program.with_more(("p", 1), ("widen", "z", "a"))
>>> [Walk(program, ("p",)).steps[1], told.road, told.many, bool(verdict(fixed, ("p", 2)))]
[(('p', 1), ('', 'z', 'z')), ('p',), 1, False]
''',
    "12": '''
>>> from signskept.plays import Play, bits_for
>>> from signskept.programs import Program
>>> program = Program("p", {"p": ((("do", "a", "load"), ("do", None, "shr", "a")), ())})
>>> run = bits_for(program, ("p",), narrow=2, wide=4)
>>> play = Play(program, ("p",), run, narrow=2, wide=4)
>>> [run, play.fails(), play.dresses(1)]
[((6,), (6, 6)), [1], ('',)]
''',
    "26": r'''
>>> from signskept.programs import Program
>>> from signskept.texts import format_program, parse_program
>>> text = "first p\nstart a z\nblock p p q\n  do a add a a\nblock q\n"
>>> program = parse_program(text)
>>> [program.goes("p"), program["p", 0], format_program(program) == text]
[('p', 'q'), ('do', 'a', 'add', 'a', 'a'), True]
''',
    "27": '''
>>> from signskept.drafts import Draft
>>> from signskept.programs import Program
>>> draft = Draft(Program("p", {"p": ((("move", "a", "b"),), ())}))
>>> draft["p", 0] = ("widen", "s", "a")
>>> draft.put_more(("p", 0), ("do", "a", "load"))
>>> first = [len(draft), draft["p", 0], draft["p", 1]]
>>> draft.undo()
>>> [first, draft.now().rows("p")]
[[2, ('do', 'a', 'load'), ('widen', 's', 'a')], (('widen', 's', 'a'),)]
''',
}


class Examples(unittest.TestCase):
    def test_examples(self):
        for point, text in EXAMPLES.items():
            example = doctest.DocTestParser().get_doctest(text, {}, "point " + point, None, 0)
            told = []
            result = doctest.DocTestRunner(verbose=False).run(example, out=told.append)
            self.assertGreater(result.attempted, 0)
            self.assertEqual(result.failed, 0, "".join(told))


if __name__ == "__main__":
    unittest.main()
