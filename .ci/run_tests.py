"""Run the tests of some folders: run_tests.py PROJECT_TESTS [OTHER_TESTS ..]

The first folder must hold tests; the others may be missing or hold none.
It ends with 1 if a test fails, or if a file of tests runs none.
"""

import os
import pathlib
import subprocess
import sys

ONE = """
import sys, unittest
folder, name = sys.argv[1:]
suite = unittest.TestLoader().discover(folder, name, folder)
result = unittest.TextTestRunner().run(suite)
ran = result.testsRun - len(result.skipped)
sys.exit(0 if result.wasSuccessful() and ran > 0 else 1)
"""


def passes(path):
    # Each file runs by itself, since files of two folders may share a name.
    root = pathlib.Path.cwd()
    paths = os.pathsep.join([str(root), str(path.parent)])
    env = dict(os.environ, PYTHONPATH=paths)
    command = [sys.executable, "-B", "-c", ONE, str(path.parent), path.name]
    print("==", path, flush=True)
    return subprocess.run(command, env=env, cwd=root).returncode == 0


def main(folders):
    files = [sorted(pathlib.Path(folder).rglob("test_*.py")) for folder in folders]
    if not files[0]:
        print("no tests in", folders[0])
        return 1
    failed = [path for found in files for path in found if not passes(path)]
    for path in failed:
        print("failed, or ran no test:", path)
    return 1 if failed else 0


sys.exit(main(sys.argv[1:]))
