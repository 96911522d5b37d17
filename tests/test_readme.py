import ast
import pathlib
import re
import unittest

README = pathlib.Path(__file__).resolve().parent.parent / "README.md"


class Examples(unittest.TestCase):
    def test_what_stands_beside_an_example_is_what_it_tells(self):
        code = "\n".join(re.findall(r"```python\n(.*?)```", README.read_text(encoding="utf-8"), re.S))
        names = {}
        held = 0
        for node in ast.parse(code).body:
            text = ast.get_source_segment(code, node)
            if not isinstance(node, ast.Expr):
                exec(text, names)
                continue
            said = code.split("\n")[node.end_lineno - 1].partition("# ")[2]
            told = eval(text, names)
            # Some are told in words alone.
            if re.match(r"[\[(\"0-9NTF]", said):
                held += 1
                self.assertTrue(said.startswith(repr(told).replace("'", '"')), (text, told))
        self.assertGreater(held, 60)


if __name__ == "__main__":
    unittest.main()
