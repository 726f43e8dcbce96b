"""The examples in README.md tell what the program answers."""

import ast
import pathlib
import re
import unittest

README = pathlib.Path(__file__).resolve().parent.parent / "README.md"


class ReadmeTest(unittest.TestCase):
    def test_examples(self):
        asked = 0
        for block in re.findall(r"```python\n(.*?)```", README.read_text(encoding="utf-8"), re.DOTALL):
            lines, known = block.split("\n"), {}
            for node in ast.parse(block).body:
                remark = re.search(r"\s# (.*)$", lines[node.end_lineno - 1])
                if isinstance(node, ast.Expr) and remark:
                    told = eval(compile(ast.Expression(node.value), "README.md", "eval"), known)
                    self.assertEqual(told, ast.literal_eval(remark.group(1)), lines[node.end_lineno - 1])
                    asked += 1
                else:
                    exec(compile(ast.Module([node], []), "README.md", "exec"), known)
        self.assertGreater(asked, 20)


if __name__ == "__main__":
    unittest.main()
