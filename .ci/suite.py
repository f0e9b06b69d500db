"""Runs all test_*.py files of some folders, each file by a python3 of its own, and counts."""

import glob
import os
import re
import subprocess
import sys
from concurrent.futures import ThreadPoolExecutor

ROOT = os.path.dirname(os.path.dirname(os.path.abspath(__file__)))
# The counts come from the runner itself, so that errors in loading a file count as failures, too.
RUNNER = """
import sys, unittest
loader = unittest.TestLoader()
folder, name, top = sys.argv[1:4]
suite = loader.discover(folder, pattern=name, top_level_dir=top)
result = unittest.TextTestRunner(stream=sys.stderr, verbosity=1).run(suite)
bad = len(result.failures) + len(result.errors) + len(result.unexpectedSuccesses)
print("counted", max(result.testsRun - bad, 0), bad)
"""


def run_file(path):
    """(path, passed, failed, what was printed) of one file of tests."""
    folder = os.path.dirname(os.path.abspath(path))
    top = ROOT if os.path.exists(os.path.join(folder, "__init__.py")) and folder.startswith(ROOT) else folder
    environment = {**os.environ, "PYTHONPATH": ROOT, "PYTHONDONTWRITEBYTECODE": "1"}
    done = subprocess.run(
        [sys.executable, "-c", RUNNER, folder, os.path.basename(path), top], cwd=ROOT, env=environment,
        stdin=subprocess.DEVNULL, capture_output=True, text=True, errors="replace")
    found = re.search(r"^counted (\d+) (\d+)$", done.stdout, re.MULTILINE)
    if found is None or done.returncode != 0:
        return path, 0, 1, done.stdout + done.stderr
    passed, failed = int(found.group(1)), int(found.group(2))
    if passed + failed == 0:
        return path, 0, 1, "no test in this file\n" + done.stderr
    return path, passed, failed, done.stderr


def main():
    own, *more = sys.argv[1:]
    files = sorted(glob.glob(os.path.join(own, "**", "test_*.py"), recursive=True))
    if not files:
        print("no tests of the project")
        return 1
    for folder in more:
        files += sorted(glob.glob(os.path.join(folder, "**", "test_*.py"), recursive=True))
    passed = failed = 0
    with ThreadPoolExecutor(max_workers=os.cpu_count() or 1) as pool:
        for path, good, bad, told in pool.map(run_file, files):
            print(f"{path}: {good} passed, {bad} failed", flush=True)
            if bad:
                print(told, flush=True)
            passed += good
            failed += bad
    print(f"{passed} passed, {failed} failed")
    return 1 if failed or not passed else 0


if __name__ == "__main__":
    sys.exit(main())
