"""Run every test_*.py under tests and under ../shared/tests, and close with a count of the tests that ran.

Each folder has a process of its own, as two folders may hold files of one name.
"""

import os
import subprocess
import sys
import unittest

ROOT = os.path.dirname(os.path.dirname(os.path.abspath(__file__)))
PLACES = (os.path.join(ROOT, "tests"), os.path.join(os.path.dirname(ROOT), "shared", "tests"))
VERSIONS = ("3.11", "3.13")


def is_test_file(name):
    return name.startswith("test_") and name.endswith(".py")


def test_folders():
    """The folders in PLACES, at any depth, that hold a test."""
    return [folder for place in PLACES for folder, _, names in sorted(os.walk(place))
            if any(is_test_file(name) for name in names)]


def version_of(python):
    """The version of a Python, such as 3.11, or None if it does not start."""
    code = "import sys; print('{}.{}'.format(*sys.version_info))"
    try:
        done = subprocess.run([python, "-c", code], capture_output=True, text=True, check=True)
    except (OSError, subprocess.CalledProcessError):
        return None
    return done.stdout.strip()


def pythons():
    """This Python, and one of each other version of VERSIONS that the machine has."""
    found = {version_of(sys.executable): sys.executable}
    kept = os.path.expanduser(os.path.join(os.environ.get("PYENV_ROOT", "~/.pyenv"), "versions"))
    installed = sorted(os.listdir(kept)) if os.path.isdir(kept) else []
    places = [os.path.join(kept, name, "bin", "python3") for name in installed]
    for python in [f"python{version}" for version in VERSIONS] + places:
        version = version_of(python)
        if version in VERSIONS:
            found.setdefault(version, python)
    return found


def run_folder(folder):
    """Run the tests of one folder here; the last line of the output holds three counts."""
    sys.path[:0] = [folder, ROOT]
    names = [name[:-3] for name in sorted(os.listdir(folder)) if is_test_file(name)]
    suite = unittest.defaultTestLoader.loadTestsFromNames(names)
    result = unittest.TextTestRunner(stream=sys.stderr, verbosity=1).run(suite)
    wrong = [test for test, _ in result.failures + result.errors] + result.unexpectedSuccesses
    failed = len({getattr(test, "test_case", test).id() for test in wrong})
    skipped = len(result.skipped)
    print(f"\n{max(result.testsRun - failed - skipped, 0)} {failed} {skipped}")


def counts_of(python, folder):
    """The counts of passed, failed and skipped tests of a folder; a process that breaks off counts as failed."""
    done = subprocess.run([python, "-W", "error::SyntaxWarning", __file__, folder], cwd=ROOT, text=True,
                          stdout=subprocess.PIPE)
    lines = done.stdout.splitlines()
    counts = [int(word) for word in lines[-1].split() if word.isdigit()] if lines else []
    return counts if done.returncode == 0 and len(counts) == 3 else [0, 1, 0]


def main():
    if len(sys.argv) > 1:
        run_folder(sys.argv[1])
        return 0
    sums = [0, 0, 0]
    for version, python in sorted(pythons().items()):
        for folder in test_folders():
            counts = counts_of(python, folder)
            sums = [have + more for have, more in zip(sums, counts)]
            print(f"Python {version}, {os.path.relpath(folder, ROOT)}: {sum(counts)} tests", flush=True)
    passed, failed, skipped = sums
    ending = f", {skipped} skipped" if skipped else ""
    print(f"{passed} passed, {failed} failed{ending}")
    return 0 if passed > 0 and failed == 0 else 1


if __name__ == "__main__":
    sys.exit(main())
