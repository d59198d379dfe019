import pathlib
import re
import unittest

README = pathlib.Path(__file__).resolve().parent.parent / "README.md"


class Readme(unittest.TestCase):
    def test_what_it_shows(self):
        blocks = re.findall(r"```python\n(.*?)```", README.read_text(encoding="utf-8"), re.S)
        names, judged = {}, 0
        for block in blocks:
            rows = []
            for row in block.split("\n"):
                told = re.match(r"(\S.*?)\s{2,}# (.*)", row)
                if told and re.match(r"(True|\[|\(|\")", told.group(2)):
                    exec("\n".join(rows), names)
                    rows = []
                    expected = eval(re.match(r"True|\[.*\]|\([^)]*\)|\"[^\"]*\"", told.group(2)).group(), names)
                    self.assertEqual(eval(told.group(1), names), expected, row)
                    judged += 1
                else:
                    rows.append(row)
            exec("\n".join(rows), names)
        self.assertGreater(judged, 15)


if __name__ == "__main__":
    unittest.main()
