"""The change that broke a program, found by tests some of whose answers are false."""
