"""Flaky tests: tries, verdicts, quarantine."""
