"""Runs each test file by itself with unittest and counts the tests.

Each file runs in a process and a folder of its own, because files of two
folders may have the same name.
"""

import os
import pathlib
import re
import subprocess
import sys

ROOT = pathlib.Path(__file__).resolve().parent.parent
OWN = ROOT / "tests"
SHARED = ROOT.parent / "shared" / "tests"
NO_TESTS = 5


def test_files(folder):
    return sorted(folder.rglob("test_*.py"))


def run_file(path):
    """Runs one file and returns how many tests ran and how many failed."""
    # The shared folder may be read-only, and the package holds only its files.
    surroundings = dict(os.environ, PYTHONPATH=str(ROOT), PYTHONDONTWRITEBYTECODE="1")
    done = subprocess.run(
        [sys.executable, "-m", "unittest", path.stem],
        cwd=path.parent,
        env=surroundings,
        stdin=subprocess.DEVNULL,
        stdout=subprocess.PIPE,
        stderr=subprocess.STDOUT,
        text=True,
    )
    return counted(done.returncode, done.stdout), done.stdout


def counted(code, text):
    ran = [int(many) for many in re.findall(r"^Ran (\d+) tests? in", text, re.M)]
    many = ran[-1] if ran else 0
    if code == 0 or (code == NO_TESTS and ran == [0]):
        return many, 0
    told = re.findall(r"^FAILED \((.*)\)$", text, re.M)
    wrong = re.findall(r"(?:failures|errors|unexpected successes)=(\d+)", told[-1] if told else "")
    failed = max(1, sum(int(word) for word in wrong))
    return max(many, failed), failed


def run_folder(folder):
    """Runs the files of a folder and returns how many ran and failed."""
    total, total_failed = 0, 0
    for path in test_files(folder):
        (many, failed), text = run_file(path)
        print(f"{path.relative_to(folder.parent)}: {many} ran, {failed} failed", flush=True)
        if failed:
            print(text, flush=True)
        total, total_failed = total + many, total_failed + failed
    return total, total_failed


def main():
    own, own_failed = run_folder(OWN)
    shared, shared_failed = run_folder(SHARED) if SHARED.is_dir() else (0, 0)
    failed = own_failed + shared_failed
    print(f"{own} tests of the project and {shared} shared tests ran.")
    print(f"{own + shared - failed} passed, {failed} failed")
    if own == 0:
        print("The project has no tests.")
    return 1 if failed or own == 0 else 0


if __name__ == "__main__":
    sys.exit(main())
