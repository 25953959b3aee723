"""Tests of shadeguards; README.md tells how to run them."""
