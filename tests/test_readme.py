"""The examples of README.md answer what stands behind them there."""

import ast
import pathlib
import re
import unittest

README = pathlib.Path(__file__).resolve().parent.parent / "README.md"


class Examples(unittest.TestCase):
    def test_each_answer(self):
        code = "\n".join(re.findall(r"```python\n(.*?)```", README.read_text("ascii"), re.S))
        rows = code.split("\n")
        names = {}
        answers = 0
        for node in ast.parse(code).body:
            row = rows[node.end_lineno - 1]
            if isinstance(node, ast.Expr) and " # " in row:
                told = eval(compile(ast.Expression(node.value), "README.md", "eval"), names)
                self.assertEqual(told, ast.literal_eval(row.split(" # ")[1].strip()), row)
                answers += 1
            else:
                exec(compile(ast.Module([node], []), "README.md", "exec"), names)
        self.assertGreater(answers, 10)


if __name__ == "__main__":
    unittest.main()
