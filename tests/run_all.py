"""Runs every test of the project and every shared test, and tells how many ran.

    python3 tests/run_all.py

Each file test_*.py runs in a process of its own, with the top of the
repository as the folder from which the program is imported.
"""

import os
import re
import subprocess
import sys
from concurrent.futures import ThreadPoolExecutor
from pathlib import Path

ROOT = Path(__file__).resolve().parent.parent
SHARED = ROOT.parent / "shared" / "tests"
NO_TESTS = 5


def jobs():
    """Returns what is to be run: names of files, of modules, and the paths for imports."""
    found = []
    for path in sorted((ROOT / "tests").rglob("test_*.py")):
        module = ".".join(path.relative_to(ROOT).with_suffix("").parts)
        found.append((str(path.relative_to(ROOT)), module, [str(ROOT)]))
    if SHARED.is_dir():
        for path in sorted(SHARED.rglob("test_*.py")):
            found.append((str(path), path.stem, [str(ROOT), str(path.parent)]))
    return found


def run(job):
    """Runs one file; returns its name, how many tests ran, how many failed, and the output."""
    name, module, paths = job
    known = dict(os.environ, PYTHONPATH=os.pathsep.join(paths), PYTHONDONTWRITEBYTECODE="1")
    ended = subprocess.run(
        [sys.executable, "-m", "unittest", module], cwd=ROOT, env=known,
        stdin=subprocess.DEVNULL, stdout=subprocess.PIPE, stderr=subprocess.STDOUT, text=True,
    )
    ran = [int(number) for number in re.findall(r"^Ran (\d+) tests? in", ended.stdout, re.M)]
    many = ran[-1] if ran else 0
    told = re.findall(r"^FAILED \((.*)\)$", ended.stdout, re.M)
    failed = 0
    if ended.returncode != 0 and not (ended.returncode == NO_TESTS and ran == [0]):
        counts = re.findall(r"(?:failures|errors|unexpected successes)=(\d+)", told[-1]) if told else []
        failed = max(1, sum(int(count) for count in counts))
    return name, many, failed, ended.stdout


def main():
    """Runs all; returns 0 if no test failed and some ran."""
    with ThreadPoolExecutor(os.cpu_count() or 1) as pool:
        results = list(pool.map(run, jobs()))
    for name, many, failed, output in results:
        print(f"{name}: {many} tests ran, {failed} failed")
        if failed:
            print(output)
    ran = sum(many for _, many, _, _ in results)
    failed = sum(failed for _, _, failed, _ in results)
    print(f"{ran} tests ran in {len(results)} files")
    print(f"{max(0, ran - failed)} passed, {failed} failed")
    return 0 if failed == 0 and ran > 0 else 1


if __name__ == "__main__":
    sys.exit(main())
